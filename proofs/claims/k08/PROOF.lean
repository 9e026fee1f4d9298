import PyProof.Rows.All
import Wide.All
import OpenK.AllK
import Wide.FinOn
import HandS.ForMost
import HandS.IsInst
import HandS.OwnEq
import PyProof.InstNe
import PyProof.Draws
import KE.GoesEnum
import KE.GoesMore
import HandS.Walk
import HandS.Conv
import HandS.Evl
import HandS.Zip
import PySem.Challenge.RW_leafmarks_k08_whole_kernels_of_joined_ed
set_option Elab.async false
set_option linter.all false
set_option maxRecDepth 100000
set_option maxHeartbeats 16000000
namespace Lm
open PySem L2
section
variable {X : Cx} {CX : CXT} {k : Nat} {f C : Addr} {fd : FuncData} {ps : List Str} {sp : Sp} {E : XK} {pins : List (Addr × Obj)} {σ : St} {H : Hp} {s : Shared}
/-- the callee runs under another around of the same frames -/
theorem run_in {A : Around} {Q : VK} {us : List Value} {vs : List V} (F : FnOk X.prog X.w X.K X.mg X.base CX k f fd ps sp) (hr : Room k A) (e0 : Env0 X.prog X.w X.K X.mg X.base A X.stack s H) (hb : Binds X.K fd ps [])
    (hx : Passes CX X E) (I : Inv X pins σ H s) (r : Vals vs us) (h : sp vs H Q E) : wpAny (model X.prog X.w) A (call (.ref f) us) (EP X pins σ Q) X.xe s := by
  have hl : us.length = ps.length := by rw [← r.length]; exact F.len _ _ _ _ h
  have hb' : BindsTo s fd ⟨us, []⟩ (ps.zip us) := by
    have := hb s us I.kIn (by simpa using hl)
    simpa using this
  refine wpAny_call (codeAny_mono (F.run A X.stack s H ⟨us, []⟩ us vs Q E hr e0 hb' r h) fun r s' hq => ?_)
  cases r with
  | error e => exact hx pins σ H s e s' I hq
  | ok fl =>
    cases fl with
    | ret u => exact I.after hq
    | next => exact False.elim hq
    | brk => exact False.elim hq
    | cont => exact False.elim hq
/-- len(x), x an instance with its own __len__ -/
def rLenOwn (C : Addr) (sp : Sp) (E : XK) : List V → Hp → VK → Prop := fun xs H Q => ∃ a dx fs, xs = [.ref a] ∧ H a = some (.ins C dx fs) ∧
  sp [.ref a] H (fun z H' => ∃ n : Nat, z = .int n ∧ n < 2 ^ 62 ∧ Q (.int n) H') E
theorem call_lenOwn (F : FnOk X.prog X.w X.K X.mg X.base CX k f fd ps sp) (hs : PySem.W.findIn X.K (.ref C) "__len__" = some (some (.ref f))) (hf : PySem.W.isFn X.K (.ref f) = true) (hb : Binds X.K fd ps []) (hr : Room (k + 1) X.A) (hx : Passes CX X E) :
    CallR X (.builtin "len") (rLenOwn C sp E) := by
  intro pins s σ H xs us Q I r h
  obtain ⟨a, dx, fs, rfl, ha, q⟩ := h
  obtain ⟨u, rfl, ru⟩ := r.one
  cases (show u = Value.ref a from ru)
  obtain ⟨mA, J, _⟩ := ins_get I.hok ha
  obtain ⟨od, J, _⟩ := J.look
  obtain ⟨m, hF⟩ := I.fr
  refine PySem.W.len_K hF I.ok.mod.kin J hs hf (wpAny_mono (run_in (us := [.ref a]) (vs := [.ref a]) F hr.in1 I.env0.in1 hb hx I (.cons rfl .nil) q) (fun w s' z => ?_) fun _ _ x => x)
  obtain ⟨z', H', I', rz, n, ez, hn, qz⟩ := z
  subst ez
  obtain ⟨t, e⟩ := (show ∃ t, w = Value.int n t from rz)
  subst e
  refine ⟨⟨by omega, by omega⟩, .int n, H', I'.tok _, ⟨_, rfl⟩, qz⟩
/-- x in y, y an instance with its own __contains__ -/
def rInOwn (C : Addr) (sp : Sp) (E : XK) (neg : Bool) : R2 := fun x y H Q => ∃ a dx fs, y = .ref a ∧ H a = some (.ins C dx fs) ∧
  sp [y, x] H (fun z H' => ∃ b : Bool, z = .bl b ∧ Q (.bl (if neg then !b else b)) H') E
theorem op_inOwn (F : FnOk X.prog X.w X.K X.mg X.base CX k f fd ps sp) (hs : PySem.W.findIn X.K (.ref C) "__contains__" = some (some (.ref f))) (hf : PySem.W.isFn X.K (.ref f) = true) (hb : Binds X.K fd ps []) (hr : Room k X.A) (hx : Passes CX X E) :
    OpR X (compareOp .In) (rInOwn C sp E false) := by
  intro pins s σ H x y v u Q I rx ry h
  obtain ⟨a, dx, fs, rfl, ha, q⟩ := h
  cases (show u = Value.ref a from ry)
  obtain ⟨mA, J, _⟩ := ins_get I.hok ha
  obtain ⟨od, J, _⟩ := J.look
  obtain ⟨m, hF⟩ := I.fr
  refine PySem.W.in_K hF I.ok.mod.kin J hs hf (wpAny_mono (run_in (us := [.ref a, v]) (vs := [.ref a, x]) F hr I.env0 hb hx I (.cons rfl (.cons rx .nil)) q) (fun w s' z => ?_) fun _ _ x => x)
  obtain ⟨z', H', I', rz, b, ez, qz⟩ := z
  subst ez
  cases (show w = Value.bool b from rz)
  exact wpAny_truthy_bool ⟨.bl _, H', I', rfl, qz⟩
theorem op_notInOwn (F : FnOk X.prog X.w X.K X.mg X.base CX k f fd ps sp) (hs : PySem.W.findIn X.K (.ref C) "__contains__" = some (some (.ref f))) (hf : PySem.W.isFn X.K (.ref f) = true) (hb : Binds X.K fd ps []) (hr : Room k X.A) (hx : Passes CX X E) :
    OpR X (compareOp .NotIn) (rInOwn C sp E true) := by
  intro pins s σ H x y v u Q I rx ry h
  obtain ⟨a, dx, fs, rfl, ha, q⟩ := h
  cases (show u = Value.ref a from ry)
  obtain ⟨mA, J, _⟩ := ins_get I.hok ha
  obtain ⟨od, J, _⟩ := J.look
  obtain ⟨m, hF⟩ := I.fr
  refine PySem.W.notIn_K hF I.ok.mod.kin J hs hf (wpAny_mono (run_in (us := [.ref a, v]) (vs := [.ref a, x]) F hr I.env0 hb hx I (.cons rfl (.cons rx .nil)) q) (fun w s' z => ?_) fun _ _ x => x)
  obtain ⟨z', H', I', rz, b, ez, qz⟩ := z
  subst ez
  cases (show w = Value.bool b from rz)
  exact wpAny_truthy_bool ⟨.bl _, H', I', rfl, qz⟩
theorem cmpBack {P : Value → Shared → Prop} {z : V} {v : Value} {s' : Shared} (r : RelV z v) (h : P v s') : PySem.W.CmpBack P v s' := by
  cases z with
  | non => cases (show v = Value.none from r); exact h
  | bl b => cases (show v = Value.bool b from r); exact h
  | int i => obtain ⟨t, e⟩ := (show ∃ t, v = Value.int i t from r); cases e; exact h
  | str i => obtain ⟨t, e⟩ := (show ∃ t, v = Value.str i t from r); cases e; exact h
  | byt i => obtain ⟨t, e⟩ := (show ∃ t, v = Value.bytes i t from r); cases e; exact h
  | flt i => obtain ⟨t, e⟩ := (show ∃ t, v = Value.float i t from r); cases e; exact h
  | ref a => cases (show v = Value.ref a from r); exact h
  | ty n => cases (show v = Value.type n from r); exact h
/-- x op y, both instances of the class at C that has its own def for it -/
def rBinOwn (C : Addr) (sp : Sp) (E : XK) : R2 := fun x y H Q => ∃ a dx fs b dy gs, x = .ref a ∧ y = .ref b ∧ H a = some (.ins C dx fs) ∧ H b = some (.ins C dy gs) ∧ sp [x, y] H Q E
theorem op_binOwn {op : Operator} (F : FnOk X.prog X.w X.K X.mg X.base CX k f fd ps sp) (hc : PySem.W.selfFirst X.K C = true) (hs : PySem.W.findIn X.K (.ref C) (PySem.dunder op.info.2) = some (some (.ref f))) (hf : PySem.W.isFn X.K (.ref f) = true) (hb : Binds X.K fd ps []) (hr : Room k X.A) (hx : Passes CX X E) :
    OpR X (binaryOp op) (rBinOwn C sp E) := by
  intro pins s σ H x y v u Q I rx ry h
  obtain ⟨a, dx, fs, b, dy, gs, rfl, rfl, ha, hb', q⟩ := h
  cases (show v = Value.ref a from rx)
  cases (show u = Value.ref b from ry)
  obtain ⟨mA, J, _⟩ := ins_get I.hok ha
  obtain ⟨mB, J', _⟩ := ins_get I.hok hb'
  obtain ⟨od, J, _⟩ := J.look
  obtain ⟨od', J', _⟩ := J'.look
  obtain ⟨m, hF⟩ := I.fr
  refine PySem.W.binop_K hF I.ok.mod.kin J J'.type hc hs hf (wpAny_mono (run_in (us := [.ref a, .ref b]) (vs := [.ref a, .ref b]) F hr I.env0 hb hx I (.cons rfl (.cons rfl .nil)) q) (fun w s' z => ?_) fun _ _ x => x)
  obtain ⟨z', H', I', rz, qz⟩ := z
  exact cmpBack rz ⟨z', H', I', rz, qz⟩
theorem op_cmpOwn {op : CmpOp} (hop : ∀ a b, compareOp op a b = richCompare op a b) (F : FnOk X.prog X.w X.K X.mg X.base CX k f fd ps sp) (hs : PySem.W.findIn X.K (.ref C) (cmpInfo op).2.1 = some (some (.ref f))) (hf : PySem.W.isFn X.K (.ref f) = true) (hb : Binds X.K fd ps []) (hr : Room k X.A) (hx : Passes CX X E) :
    OpR X (compareOp op) (rBinOwn C sp E) := by
  intro pins s σ H x y v u Q I rx ry h
  obtain ⟨a, dx, fs, b, dy, gs, rfl, rfl, ha, hb', q⟩ := h
  cases (show v = Value.ref a from rx)
  cases (show u = Value.ref b from ry)
  obtain ⟨mA, J, _⟩ := ins_get I.hok ha
  obtain ⟨mB, J', _⟩ := ins_get I.hok hb'
  obtain ⟨od, J, _⟩ := J.look
  obtain ⟨od', J', _⟩ := J'.look
  obtain ⟨m, hF⟩ := I.fr
  rw [hop]
  refine PySem.W.cmp_K (op := op) (tb := .ref C) hr.units0 hF I.ok.mod.kin J J'.type (by simp [PySem.W.notFirst]) hs hf (wpAny_mono (run_in (us := [.ref a, .ref b]) (vs := [.ref a, .ref b]) F hr I.env0 hb hx I (.cons rfl (.cons rfl .nil)) q) (fun w s' z => ?_) fun _ _ x => x)
  obtain ⟨z', H', I', rz, qz⟩ := z
  exact cmpBack rz ⟨z', H', I', rz, qz⟩
end
end Lm

namespace Lm
open PySem PySem.W PySem.Calls PyProof.Rows
section
variable {prog : Program} {w : World} {A : Around} {E : Value → Shared → Prop} {s : Shared} {K : Frag} {x C L f : Addr} {h₀ : Heap} {m : Str → Option Value} {ox : Obj} {od : Option Obj} {b tb : Value}
/-- != of an instance whose class has an own == and no own != -/
theorem ne_own {Q : Value → Shared → Prop} (hu : A.units + 1 < cLine) (Fr' : Fr h₀ L s.heap m) (X₀ : K.In h₀) (I : InstAt s.heap x ox C od) (hb : Looks (model prog w) s.heap (typeOf b) tb) (hn : notFirst K C tb = true)
    (hne : findIn K (.ref C) "__ne__" = some (some (.builtin "object.__ne__"))) (hobj : subIn K (.ref C) (.type "object") = some true)
    (hs : findIn K (.ref C) "__eq__" = some (some (.ref f))) (hf : isFn K (.ref f) = true)
    (h : wpAny (model prog w) A.in1 (call (.ref f) [.ref x, b]) (fun v s' => ∃ k, v = .bool k ∧ Q (.bool (!k)) s') E s) : wpAny (model prog w) A (richCompare .NotEq (.ref x) b) Q E s := by
  have X := X₀.keeps Fr'.keep
  have fin : ∀ (Q' : Option Value → Shared → Prop), (∀ k s', Q (.bool (!k)) s' → Q' (some (.bool (!k))) s') →
      wpAny (model prog w) A (call (.builtin "object.__ne__") ([.ref x] ++ [b]) >>= fun v => pure (some v)) Q' E s := by
    intro Q' hQ
    refine wpAny_bind (wpAny_call (codeAny_call_builtin PySem.F.cmp_object.ne.plain PySem.F.cmpEntry_ne ?_))
    refine @check_slot (model prog w) _ _ _ "object.__ne__" "object" "__ne__" (.ref x) [b] [] _ PySem.F.cmpKind_ne PySem.F.cmpSplit_ne (I.type.andThen (looks_subIn X hobj)) (PySem.F.cmpArgs_ne _ _) ?_
    unfold Builtin.«object.__ne__»
    repeat (first
      | with_reducible refine wpAny_cRoomFor hu ?_
      | (refine wpAny_bind (m := callSpecialIfBound? (.ref x) (Str.ofString "__eq__") [b])
          (ifBound_K X I hs hf (wpAny_mono h (fun r s' hr => by
            obtain ⟨k, rfl, hq⟩ := hr
            repeat (first | exact ⟨_, rfl, wpAny_pure (hQ k s' hq)⟩ | exact wpAny_pure (hQ k s' hq) | exact hQ k s' hq | exact wpAny_truthy_bool (hQ k s' hq) | (refine wpAny_bind (m := truthy (.bool _)) (wpAny_truthy_bool ?_)) | wp_step)) fun _ _ e => e)))
      | wp_step)
  have one : wpAny (model prog w) A (tryCompare (.ref x) "__ne__" b) (fun r s' => ∃ v, r = some v ∧ Q v s') E s := by
    simp only [tryCompare]
    refine wpAny_bind ?_
    simp only [callSpecialIfBound?, bindSpecialIfBound?]
    refine wpAny_holding (wpAny_bind (wpAny_bind (wpAny_bind (I.type.here ((looks_findIn X hne).here ?_)))))
    refine wpAny_bind (wpAny_askSetting (wpAny_ite ?_))
    split
    · refine wpAny_bind ?_
      rw [PySem.F.cmp_object.ne.bind]
      refine wpAny_pure (wpAny_pure ?_)
      show wpAny _ _ (call _ _ >>= fun v => pure (some v)) _ _ _
      exact fin _ fun k s' q => wpAny_pure ⟨_, rfl, q⟩
    · refine wpAny_tryCatch (wpAny_bind ?_)
      rw [PySem.F.cmp_object.ne.bind]
      refine wpAny_pure (wpAny_pure ?_)
      show wpAny _ _ (call _ _ >>= fun v => pure (some v)) _ _ _
      exact fin _ fun k s' q => wpAny_pure ⟨_, rfl, q⟩
  unfold richCompare
  simp only [oneThing_ref]
  refine wpAny_holding (wpAny_bind (wpAny_cRoomFor (Nat.lt_of_succ_lt hu) ?_))
  refine wpAny_bind (I.type.here (wpAny_bind (hb.here ?_)))
  split
  · rename_i q
    have e : subIn K tb (.ref C) = some false := by
      rcases Bool.or_eq_true_iff.mp hn with e | e
      · rw [beq_iff_eq.mp e] at q; simp at q
      · exact beq_iff_eq.mp e
    refine wpAny_bind ((looks_subIn X e).here ?_)
    simp only [Bool.false_eq_true, if_false]
    refine wpAny_bind (wpAny_mono one (fun r s' z => ?_) fun _ _ e => e)
    obtain ⟨v, rfl, hq⟩ := z
    exact wpAny_pure hq
  · refine wpAny_bind (wpAny_pure ?_)
    simp only [Bool.false_eq_true, if_false]
    refine wpAny_bind (wpAny_mono one (fun r s' z => ?_) fun _ _ e => e)
    obtain ⟨v, rfl, hq⟩ := z
    exact wpAny_pure hq
end
end Lm

namespace Lm
open PySem PySem.W PySem.Calls PyProof.Rows Builtin
theorem meets_enum1 {v : Value} {o : Obj} {H : Heap → Prop} (B : Begins v o H) :
    Meets (Builtin.«enumerate.__new__» ⟨[.type "enumerate", v], []⟩) (fun _ R s => H s.heap ∧
      R (.ok (.ret (.ref (s.heap.push o).objs.size))) { s with heap := (s.heap.push o).push { cls := .type "enumerate", data := .fields #[.none, .bool false, .ref s.heap.objs.size, rawInt 0, .none, .none] } }) :=
  .of_wp fun prog w A R s ⟨h1, h⟩ => by
    obtain ⟨hp, g, d, tk, os⟩ := s
    have hsub := sub_enumerate
    have q1 : ∀ {A' : Around} {E : Value → Shared → Prop} {Q : Value → Shared → Prop}, Q (.ref hp.objs.size) ⟨hp.push o, g, d, tk, os⟩ → wpAny (model prog w) A' (pyIter v) Q E ⟨hp, g, d, tk, os⟩ :=
      fun q => B.iter prog w _ _ ⟨hp, g, d, tk, os⟩ _ h1 q
    wp_walk using q1
    refine wpAny_stack_any fun st => wpAny_pure ?_
    split
    · rename_i c _ _ _ _ _
      cases (c == Value.type "enumerate")
      · wp_walk using q1
        exact ⟨_, rfl, h⟩
      · wp_walk using q1
        exact ⟨_, rfl, h⟩
    · wp_walk using q1
      exact ⟨_, rfl, h⟩
section
variable {prog : Program} {w : World} {A : Around} {E : Value → Shared → Prop} {s : Shared}
theorem call_enum1 {v : Value} {o : Obj} {H : Heap → Prop} {Q : Value → Shared → Prop} (B : Begins v o H) (h1 : H s.heap)
    (h : ∀ h', IsEnum h' (s.heap.objs.size + 1) s.heap.objs.size 0 .none → h'.get? s.heap.objs.size = some o → h'.objs.size = s.heap.objs.size + 2 →
      (∀ b o, s.heap.get? b = some o → h'.get? b = some o) → Q (.ref (s.heap.objs.size + 1)) { s with heap := h' }) :
    wpAny (model prog w) A (call (.type "enumerate") [v]) Q E s := by
  refine callType_new F.called_enumerate (by decide) (F.typeCall_enumerate_1 _) (F.newCall_enumerate_1 _) (fun obj => F.args_object_init_2 obj _) F.entry_enumerate_new
    (meets_enum1 B) ⟨h1, ?_⟩
  have hz : (s.heap.push o).objs.size = s.heap.objs.size + 1 := Heap.size_push ..
  show _ ∧ _
  rw [hz]
  have he : IsEnum ((s.heap.push o).push { cls := .type "enumerate", data := .fields #[.none, .bool false, .ref s.heap.objs.size, rawInt 0, .none, .none] }) (s.heap.objs.size + 1) s.heap.objs.size 0 .none := by
    have := Heap.get?_push_size (s.heap.push o) (o := { cls := .type "enumerate", data := .fields #[.none, .bool false, .ref s.heap.objs.size, rawInt 0, .none, .none] }) rfl
    rw [hz] at this; exact this
  refine ⟨⟨_, he, rfl⟩, h _ he (Heap.get?_push_of_some _ (Heap.get?_push_size _ B.free)) (by rw [Heap.size_push, hz]) fun b o x => Heap.get?_push_of_some _ (Heap.get?_push_of_some _ x)⟩
end
end Lm
namespace Lm
open PySem L2 PyProof.Rows PySem.Spec
open PySem.F in
theorem pyNext_enumT_end {prog : Program} {w : World} {A : Around} {E : Value → Shared → Prop} {s : Shared} {e it l : Addr} {i : Nat} {items : Array Value} {old : Value} {Q : Option Value → Shared → Prop} (hh : A.handled = none)
    (he : IsEnum s.heap e it i old) (hit : s.heap.IsTupleIter it l i) (hl : s.heap.IsTuple l items) (hx : items[i]? = none)
    (hQ : ∀ h', Heap.ExtBut it s.heap h' → Q none { s with heap := h' }) : wpAny (model prog w) A (pyNext (.ref e)) Q E s := by
  have hT : s.TypeIs (.ref e) "enumerate" := ⟨_, he, rfl⟩
  unfold pyNext
  refine wpAny_bind (wpAny_attempt (wpAny_callSpecial?_slot (name := Str.ofString "__next__") hT F.slot_enumerate_next
    (wpAny_call_entry F.slot_enumerate_next hT F.entry_enumerate_next ?_ (F.args_enumerate_next_1 _))))
  show wpAny _ _ (field (.ref e) 2 >>= _) _ _ _
  refine wpAny_bind (wpAny_field he rfl (x := .ref it) rfl ?_)
  refine wpAny_bind (wpAny_nextOf_tuple_end (A := A.in1) hh hit hl hx fun h' x he' hx' => ?_)
  obtain ⟨o, ho, hc⟩ := hx'
  refine wpAny_bind (wpAny_isInstance (T := "StopIteration") (b := true) ⟨o, ho, hc⟩ isSubtype_stop ?_)
  exact wpAny_pure (hQ _ he')
/-- the tuple at a as it stands, each item in a new pair -/
def IteT (K : PySem.W.Frag) (a : Addr) : It :=
  ⟨fun i H => ∃ (xs : List V) (x : V), SqT K H a xs ∧ xs[i]? = some x, fun i H v H' => ∃ T x, v = .ref T ∧ H T = none ∧ H' = upd H T (.tup [.int (i : Nat), x]) ∧ ∀ xs, SqT K H a xs → xs[i]? = some x, fun i H => ∃ xs : List V, SqT K H a xs ∧ xs.length ≤ i⟩
theorem turn_enumT {P : Program} {w : World} {K : PySem.W.Frag} {elts : List Expr} {kk : Nat} {tpos : Pos} (a e it : Addr) (hai : a ≠ it) (hea : e ≠ a) :
    Turn P w K (.Tuple elts kk tpos) (IteT K a) [e, it] e (fun i h => (∃ old, IsEnum h e it ((i : Nat) : Int) old) ∧ h.IsTupleIter it a i ∧ e ≠ it) where
  mem := by simp
  obj := fun i h st b hb => by
    obtain ⟨⟨old, he⟩, ⟨o, ho, hc, hd⟩, _⟩ := st
    have e' : b = e ∨ b = it := by simpa using hb
    rcases e' with z | z
    · rw [z]; exact ⟨_, he, fun v q => nomatch q⟩
    · rw [z]; exact ⟨o, ho, fun v q => by rw [hd] at q; cases q⟩
  keep := fun i h h' st k => let ⟨⟨old, he⟩, hi, hne⟩ := st; ⟨⟨old, k e (by simp) _ he⟩, hi.at fun o q => k it (by simp) o q, hne⟩
  item := by
    intro X hP hw hK hc i pins s σ H E I hf st hg
    subst hP hw hK
    obtain ⟨⟨old, he⟩, hit, hne⟩ := st
    obtain ⟨xs, x, hq, hx⟩ := hg
    obtain ⟨its, rv, p, hz⟩ := I.tuple hq
    obtain ⟨u, hu, ru⟩ := rv.get hx
    have hel : e < s.heap.objs.size := Heap.lt_size he
    have hil : it < s.heap.objs.size := by obtain ⟨_, q, _⟩ := hit; exact Heap.lt_size q
    have hi : i < its.toArray.size := by
      have := (List.getElem?_eq_some_iff.mp hu).1
      simpa using this
    refine wpAny_pyNext_enum_itemD (Draws.tuple (A := X.A.in1) (I.ok.hd hc) it a hai its.toArray) he ⟨hit, p⟩ hi hne (by simp [hne, hea]) fun x' h' tk hx' ho hst' hT hsz hk => ?_
    have hit' := hst'.1
    have ex' : x' = u := by
      have : its[i]? = some x' := by simpa using hx'
      rw [hu] at this; exact (Option.some.inj this).symm
    subst ex'
    refine ⟨_, rfl, wpAny_letOwnedTupleGo_enum (s := { s with heap := h', toks := tk + 1 }) ho fun h'' he' sb => ?_⟩
    have hT2 : h''.get? s.heap.objs.size = some { cls := .type "tuple", data := .seq #[.int i tk, x'] } := (sb.2 _ (Nat.ne_of_gt hel)).trans hT
    have new : ObjOk X.prog X.w (upd H s.heap.objs.size (.tup [.int (i : Nat), x])) h'' s.heap.objs.size (.tup [.int (i : Nat), x]) :=
      ⟨by show 2 ≤ sizeLine; decide, [.int i tk, x'], .cons ⟨_, rfl⟩ (.cons ru .nil), ⟨_, hT2, rfl, _, rfl⟩⟩
    have I1 : Inv X pins σ (upd H s.heap.objs.size (.tup [.int (i : Nat), x])) { s with heap := h'', toks := tk + 1 } :=
      I.turnedNew (ch := [e, it]) (fun b ob hb q => (sb.2 b (fun z => hb (by simp [z]))).trans (hk b ob (fun z => hb (by simp [z])) (fun z => hb (by simp [z])) q)) hf (Nat.le_refl _) new
    refine ⟨.ref s.heap.objs.size, _, I1, rfl, ⟨_, x, rfl, I.hok.fresh (Nat.le_refl _), rfl, fun ys hy => by rw [I.tuple_inj hy hq]; exact hx⟩, ⟨⟨x', ?_⟩, hit'.at fun o q => (sb.2 it (Ne.symm hne)).trans q, hne⟩, fun b hb => ?_⟩
    · have e1 : ((i + 1 : Nat) : Int) = (i : Int) + 1 := by omega
      rw [e1]; exact he'
    · have hb' : b < s.heap.objs.size := by
        have e' : b = e ∨ b = it := by simpa using hb
        rcases e' with z | z
        · rw [z]; exact hel
        · rw [z]; exact hil
      rw [upd_ne (Nat.ne_of_lt hb')]
      exact (hf b hb).1
  done := by
    intro X hP hw hK hc i pins s σ H E I hf st hg
    subst hP hw hK
    obtain ⟨⟨old, he⟩, hit, hne⟩ := st
    obtain ⟨xs, hq, hx⟩ := hg
    obtain ⟨its, rv, p, hz⟩ := I.tuple hq
    obtain ⟨f0, f1, f2, f3, f4, f5⟩ := hf it (by simp)
    have hl := rv.length
    exact pyNext_enumT_end (I.ok.hd hc) he hit p (by simp; omega) fun h' eb => ⟨rfl, I.turned (t' := s.toks) (fun b o hb q => eb b o hb q) f0 f1 f3 f4 f5⟩
  self := fun A i s Q E st h => let ⟨⟨_, he⟩, _⟩ := st; wpAny_pyIter_enum he h
def iEnumA (K : PySem.W.Frag) (ta : TA) : TI := fun σ H R => ta σ H fun vs H1 => ∃ a xs, vs = [.ref a] ∧ ((SqL K H1 a xs ∧ R (Ite K a) H1) ∨ (SqT K H1 a xs ∧ R (IteT K a) H1))
theorem pi_enumA {X : Cx} {e : Expr} {ta : TA} {p pos tpos : Pos} {elts : List Expr} {kk : Nat} (hg : Gl X "enumerate") (hm : X.mg "enumerate" = none) (ha : PA X [e] ta) (hs : starEach [e] X.env = [(false, eval e X.env)] := by rfl) :
    PI X (.Tuple elts kk tpos) (.Call (.Name "enumerate" p) [e] [] pos) (iEnumA X.K ta) := by
  refine ⟨fun pins s σ H R I h => ?_⟩
  refine Call_ (ld_blt I hg hm boot_enumerate (PyProof.Rows.callWith_type1 (thn (ha.run pos pins s σ H _ I h) fun us s1 ⟨vs, H1, I1, r1, q1⟩ => ?_) hs rfl))
  obtain ⟨a, xs, ex, q1⟩ := q1
  subst ex
  cases r1 with
  | cons r rr =>
    cases rr
    cases r
    have fresh2 : ∀ b, b ∈ [s1.heap.objs.size + 1, s1.heap.objs.size] → FpOk X pins H1 b := fun b hb => by
      have e' : b = s1.heap.objs.size + 1 ∨ b = s1.heap.objs.size := by simpa using hb
      have hle : s1.heap.objs.size ≤ b := by
        rcases e' with z | z
        · rw [z]; exact Nat.le_add_right _ _
        · rw [z]; exact Nat.le_refl _
      exact I1.fpOk hle (I1.hok.fresh hle)
    rcases q1 with ⟨hq, q⟩ | ⟨hq, q⟩
    · obtain ⟨its, rv, p', hz⟩ := I1.list hq
      refine call_enumerate_list p'.isList fun h' he hit hsz hk => wpAny_pyIter_enum he ?_
      have I2 : Inv X pins σ H1 { s1 with heap := h' } := I1.kept (t' := s1.toks) hk
      exact ⟨s1.heap.objs.size + 1, [s1.heap.objs.size + 1, s1.heap.objs.size], _, _, H1, rfl, I2, turn_enum a (s1.heap.objs.size + 1) s1.heap.objs.size, ⟨⟨.none, he⟩, hit, Nat.succ_ne_self _⟩, fresh2, q⟩
    · obtain ⟨its, rv, p', hz⟩ := I1.tuple hq
      obtain ⟨o1, ho1, _⟩ := id p'
      have hlt := Heap.lt_size ho1
      refine call_enum1 (begins_tuple a its.toArray) (show s1.heap.IsTuple a its.toArray from p') fun h' he hit hsz hk => wpAny_pyIter_enum he ?_
      have I2 : Inv X pins σ H1 { s1 with heap := h' } := I1.kept (t' := s1.toks) hk
      exact ⟨s1.heap.objs.size + 1, [s1.heap.objs.size + 1, s1.heap.objs.size], _, _, H1, rfl, I2, turn_enumT a (s1.heap.objs.size + 1) s1.heap.objs.size (Nat.ne_of_lt hlt) (Nat.ne_of_gt (Nat.lt_succ_of_lt hlt)), ⟨⟨.none, he⟩, ⟨_, hit, rfl, rfl⟩, Nat.succ_ne_self _⟩, fresh2, q⟩
theorem walk_enumT {K : PySem.W.Frag} {a : Addr} {xs : List V} : Walk (IteT K a) xs.length (fun H => SqT K H a xs) (YPair (fun i => some (.int (i : Nat))) (fun i => xs[i]?)) :=
  ⟨fun i _ hi q => ⟨xs, xs[i], q, by simp [hi]⟩, fun _ q => ⟨xs, q, Nat.le_refl _⟩, fun i H v H' _ q ⟨T, x, e1, e2, e3, e4⟩ => ⟨T, _, x, e1, e2, e3, rfl, e4 xs q⟩⟩
end Lm

namespace Lm
open PySem L2
/-! ### defs, methods, classes as they stand behind the top, with their promises -/
structure DefOk (P : Program) (w : World) (K : PySem.W.Frag) (mg : Str → Option Value) (base : Heap) (k : Nat) (x : Str) (f : Addr) (fd : FuncData) (ps : List Str) (sp : Sp) : Prop where
  ok : FnOk P w K mg base CX0 k f fd ps sp
  kp : PySem.W.keepIn K (.ref f) = true
  bd : Binds K fd ps []
  mg : mg x = some (.ref f)
structure MetOk (P : Program) (w : World) (K : PySem.W.Frag) (mg : Str → Option Value) (base : Heap) (k : Nat) (C : Addr) (m : Str) (f : Addr) (fd : FuncData) (ps : List Str) (sp : Sp) : Prop where
  ok : FnOk P w K mg base CX0 k f fd ps sp
  bd : Binds K fd ps []
  mt : Meth K C m f
  cl : Cls K C
structure ClsOk (P : Program) (w : World) (K : PySem.W.Frag) (mg : Str → Option Value) (base : Heap) (k : Nat) (x : Str) (C f : Addr) (fd : FuncData) (ps : List Str) (sp : Sp) : Prop where
  ok : FnOk P w K mg base CX0 k f fd ps sp
  bd : Binds K fd ps []
  mkr : Mk K C f
  cl : Cls K C
  mg : mg x = some (.ref C)
section
variable {X : Cx} {k : Nat} {f C : Addr} {fd : FuncData} {ps : List Str} {sp : Sp} {x m : Str} {p pos apos : Pos} {e o : Expr} {es : List Expr} {ta : TE} {t : TA}
theorem pe_d (D : DefOk X.prog X.w X.K X.mg X.base k x f fd ps sp) (hr : Room k X.A) (ha : PA X (e :: es) t) (hg : Gl X x := by rfl) (hdb : (x == ("__debug__" : Str)) = false := by decide)
    (he : starEach (e :: es) X.env = (false, eval e X.env) :: starEach es X.env := by rfl) (hpl : (backTo pos (starEach es X.env)).any (·.1) = false := by rfl) :
    PE X (.Call (.Name x p) (e :: es) [] pos) (tCall sp [] E0 t) := pe_call D.ok hr hg D.mg D.kp D.bd .nil pass0 ha hdb he hpl
theorem pe_d0 (D : DefOk X.prog X.w X.K X.mg X.base k x f fd ps sp) (hr : Room k X.A) (hg : Gl X x := by rfl) (hdb : (x == ("__debug__" : Str)) = false := by decide) :
    PE X (.Call (.Name x p) [] [] pos) (tCall sp [] E0 tNil) := pe_call0 D.ok hr hg D.mg D.kp D.bd .nil pass0 hdb
theorem pe_mk (D : ClsOk X.prog X.w X.K X.mg X.base k x C f fd ps sp) (hr : Room (k + 1) X.A) (ha : PA X (e :: es) t) (hg : Gl X x := by rfl) (hdb : (x == ("__debug__" : Str)) = false := by decide)
    (he : starEach (e :: es) X.env = (false, eval e X.env) :: starEach es X.env := by rfl) (hpl : (backTo pos (starEach es X.env)).any (·.1) = false := by rfl) :
    PE X (.Call (.Name x p) (e :: es) [] pos) (tMake C sp [] E0 t) := pe_make D.mkr D.ok hr hg D.mg D.bd .nil pass0 ha hdb he hpl
theorem pe_m {pl : Sem Bool} (D : MetOk X.prog X.w X.K X.mg X.base k C m f fd ps sp) (hr : Room k X.A) (he : PE X o ta) (ha : PA X (e :: es) t)
    (hst : starEach (e :: es) X.env = (false, eval e X.env) :: starEach es X.env := by rfl) (hpl : (backTo pos (starEach es X.env)).any (·.1) = false := by rfl)
    (ht : eval (.Call (.Attribute o m apos) (e :: es) [] pos) X.env = (do
      let ov ← eval o X.env
      standAt apos.atName
      let (f, first) ← holding [ov] (getMethod ov m pl)
      callWith pos f first (backTo pos (starEach (e :: es) X.env)) (backToKw pos (keywordEach [] X.env))) := by rfl) :
    PE X (.Call (.Attribute o m apos) (e :: es) [] pos) (tMeth C m sp [] E0 ta t) := pe_meth (pl := pl) he D.cl D.mt D.ok hr D.bd .nil pass0 ha hst hpl ht
theorem pe_m0 {pl : Sem Bool} (D : MetOk X.prog X.w X.K X.mg X.base k C m f fd ps sp) (hr : Room k X.A) (he : PE X o ta)
    (ht : eval (.Call (.Attribute o m apos) [] [] pos) X.env = (do
      let ov ← eval o X.env
      standAt apos.atName
      let (f, first) ← holding [ov] (getMethod ov m pl)
      callWith pos f first (backTo pos (starEach [] X.env)) (backToKw pos (keywordEach [] X.env))) := by rfl) :
    PE X (.Call (.Attribute o m apos) [] [] pos) (tMeth C m sp [] E0 ta tNil) := pe_meth0 (pl := pl) he D.cl D.mt D.ok hr D.bd .nil pass0 ht
theorem MetOk.len (D : MetOk X.prog X.w X.K X.mg X.base k C "__len__" f fd ps sp) (hr : Room (k + 1) X.A) : CallR X (.builtin "len") (rLenOwn C sp E0) := call_lenOwn D.ok D.mt.at_ D.mt.fn D.bd hr pass0
theorem MetOk.isin (D : MetOk X.prog X.w X.K X.mg X.base k C "__contains__" f fd ps sp) (hr : Room k X.A) : OpR X (compareOp .In) (rInOwn C sp E0 false) := op_inOwn D.ok D.mt.at_ D.mt.fn D.bd hr pass0
theorem MetOk.notin (D : MetOk X.prog X.w X.K X.mg X.base k C "__contains__" f fd ps sp) (hr : Room k X.A) : OpR X (compareOp .NotIn) (rInOwn C sp E0 true) := op_notInOwn D.ok D.mt.at_ D.mt.fn D.bd hr pass0
theorem MetOk.bin {op : Operator} (D : MetOk X.prog X.w X.K X.mg X.base k C (PySem.dunder op.info.2) f fd ps sp) (hc : PySem.W.selfFirst X.K C = true) (hr : Room k X.A) : OpR X (binaryOp op) (rBinOwn C sp E0) := op_binOwn D.ok hc D.mt.at_ D.mt.fn D.bd hr pass0
theorem MetOk.le (D : MetOk X.prog X.w X.K X.mg X.base k C "__le__" f fd ps sp) (hr : Room k X.A) : OpR X (compareOp .LtE) (rBinOwn C sp E0) := op_cmpOwn (fun _ _ => rfl) D.ok D.mt.at_ D.mt.fn D.bd hr pass0
theorem MetOk.lt (D : MetOk X.prog X.w X.K X.mg X.base k C "__lt__" f fd ps sp) (hr : Room k X.A) : OpR X (compareOp .Lt) (rBinOwn C sp E0) := op_cmpOwn (fun _ _ => rfl) D.ok D.mt.at_ D.mt.fn D.bd hr pass0
theorem MetOk.eq (D : MetOk X.prog X.w X.K X.mg X.base k C "__eq__" f fd ps sp) (hr : Room k X.A) : OpR X (compareOp .Eq) (rBinOwn C sp E0) := op_cmpOwn (fun _ _ => rfl) D.ok D.mt.at_ D.mt.fn D.bd hr pass0
/-- x != y of two instances of a class with an own == alone -/
def rNeOwn (C : Addr) (sp : Sp) (E : XK) : R2 := fun x y H Q => ∃ a dx fs b dy gs, x = .ref a ∧ y = .ref b ∧ H a = some (.ins C dx fs) ∧ H b = some (.ins C dy gs) ∧ sp [x, y] H (fun z H' => ∃ k : Bool, z = .bl k ∧ Q (.bl (!k)) H') E
theorem MetOk.ne (D : MetOk X.prog X.w X.K X.mg X.base k C "__eq__" f fd ps sp) (hn : PySem.W.findIn X.K (.ref C) "__ne__" = some (some (.builtin "object.__ne__"))) (ho : PySem.W.subIn X.K (.ref C) (.type "object") = some true) (hr : Room (k + 1) X.A) :
    OpR X (compareOp .NotEq) (rNeOwn C sp E0) := by
  intro pins s σ H x y v u Q I rx ry h
  obtain ⟨a, dx, fs, b, dy, gs, rfl, rfl, ha, hb', q⟩ := h
  cases (show v = Value.ref a from rx)
  cases (show u = Value.ref b from ry)
  obtain ⟨mA, J, _⟩ := ins_get I.hok ha
  obtain ⟨mB, J', _⟩ := ins_get I.hok hb'
  obtain ⟨od, J, _⟩ := J.look
  obtain ⟨od', J', _⟩ := J'.look
  obtain ⟨m, hF⟩ := I.fr
  show wpAny _ _ (richCompare .NotEq _ _) _ _ _
  refine ne_own (tb := .ref C) (by have := hr.un; omega) hF I.ok.mod.kin J J'.type (by simp [PySem.W.notFirst]) hn ho D.mt.at_ D.mt.fn
    (wpAny_mono (run_in (us := [.ref a, .ref b]) (vs := [.ref a, .ref b]) D.ok hr.in1 I.env0.in1 D.bd pass0 I (.cons rfl (.cons rfl .nil)) q) (fun w s' z => ?_) fun _ _ x => x)
  obtain ⟨z', H', I', rz, b, ez, qz⟩ := z
  subst ez
  cases (show w = Value.bool b from rz)
  exact ⟨b, rfl, .bl _, H', I', rfl, qz⟩
end
/-! ### heaps -/
/-- all that was tracked is as it was, but perhaps what stands at st -/
def Kp (st : Addr) (H H' : Hp) : Prop := ∀ b o, b ≠ st → H b = some o → H' b = some o
theorem Kp.refl (st : Addr) (H : Hp) : Kp st H H := fun _ _ _ h => h
theorem Kp.trans {st : Addr} {H H1 H2 : Hp} (a : Kp st H H1) (b : Kp st H1 H2) : Kp st H H2 := fun c o n h => b c o n (a c o n h)
theorem Kp.of {st : Addr} {H H' : Hp} (s : Same H H') : Kp st H H' := fun b o _ h => s b o h
theorem Kp.upd (st : Addr) (H : Hp) (o : HO) : Kp st H (upd H st o) := fun b u n h => by rw [upd_ne n]; exact h
theorem Kp.free {st : Addr} {H H' : Hp} (e : Kp st H H') {l : Addr} (hl : l ≠ st) (h : H' l = none) : H l = none := by
  cases q : H l with
  | none => rfl
  | some o => rw [e l o hl q] at h; cases h
theorem Same.upd' {H : Hp} {p : Addr} {o : HO} (h : H p = none) : Same H (upd H p o) := fun a u e => by rw [upd_ne (ne_of_none e h)]; exact e
/-- an object that H does not know may change -/
theorem Same.mut {H H' : Hp} {p : Addr} {o : HO} (e : Same H H') (h : H p = none) : Same H (upd H' p o) := fun a u ha => by rw [upd_ne (ne_of_none ha h)]; exact e a u ha
theorem Kp.mut {st : Addr} {H H' : Hp} {p : Addr} {o : HO} (e : Kp st H H') (h : H p = none) : Kp st H (L2.upd H' p o) := fun a u hn ha => by rw [upd_ne (ne_of_none ha h)]; exact e a u hn ha
theorem Kp.seqL {st : Addr} {K : PySem.W.Frag} {H H' : Hp} {a : Addr} {xs : List V} (e : Kp st H H') (hn : a ≠ st) (h : SqL K H a xs) : SqL K H' a xs := by
  rcases h with (h | ⟨o, h⟩) | h
  · exact .inl (.inl (e _ _ hn h))
  · exact .inl (.inr ⟨o, e _ _ hn h⟩)
  · exact .inr h
theorem Kp.seqT {st : Addr} {K : PySem.W.Frag} {H H' : Hp} {a : Addr} {xs : List V} (e : Kp st H H') (hn : a ≠ st) (h : SqT K H a xs) : SqT K H' a xs := by
  rcases h with (h | ⟨o, h⟩) | h
  · exact .inl (.inl (e _ _ hn h))
  · exact .inl (.inr ⟨o, e _ _ hn h⟩)
  · exact .inr h
theorem Same.seqT {K : PySem.W.Frag} {H H' : Hp} {a : Addr} {xs : List V} (e : Same H H') (h : SqT K H a xs) : SqT K H' a xs := by
  rcases h with (h | ⟨o, h⟩) | h
  · exact .inl (.inl (e _ _ h))
  · exact .inl (.inr ⟨o, e _ _ h⟩)
  · exact .inr h
/-- the law's state: the cells, how many were taken, what is left, whether it is far -/
structure StAt (H : Hp) (st c : Addr) : Prop where
  ob : ∃ (n l : Int) (b : Bool), H st = some (.lst [.ref c, .int n, .int l, .bl b])
  ce : ∃ ns : List Int, H c = some (.lst (ns.map V.int)) ∧ ns.length ≤ 63
  ne : c ≠ st
theorem StAt.same {H H' : Hp} {st c : Addr} (S : StAt H st c) (e : Same H H') : StAt H' st c := by
  obtain ⟨⟨n, l, b, h⟩, ⟨ns, h2, h3⟩, ne⟩ := S
  exact ⟨⟨n, l, b, e _ _ h⟩, ⟨ns, e _ _ h2, h3⟩, ne⟩
/-- another object changes -/
theorem StAt.mut {H : Hp} {st c p : Addr} {o : HO} (S : StAt H st c) (h1 : p ≠ st) (h2 : p ≠ c) : StAt (upd H p o) st c := by
  obtain ⟨⟨n, l, b, h⟩, ⟨ns, h4, h3⟩, ne⟩ := S
  exact ⟨⟨n, l, b, by rw [upd_ne (Ne.symm h1)]; exact h⟩, ⟨ns, by rw [upd_ne (Ne.symm h2)]; exact h4, h3⟩, ne⟩
theorem StAt.of_new {H : Hp} {st c p : Addr} (S : StAt H st c) (h : H p = none) : p ≠ st ∧ p ≠ c := by
  obtain ⟨⟨n, l, b, h1⟩, ⟨ns, h4, h3⟩, ne⟩ := S
  exact ⟨(ne_of_none h1 h).symm, (ne_of_none h4 h).symm⟩
end Lm

namespace Lm
open PySem L2
/-! ### editions as truths over the numbers of the passages -/
def idx (N : Nat) (S : Nat → Bool) : List Nat := (List.range N).filter S
def cnt (S : Nat → Bool) (c : Nat) : Nat := (idx c S).length
def cutsL (N : Nat) (S : Nat → Bool) : List Nat := 0 :: (idx N S).map (· + 1)
def countsL (N : Nat) (S : Nat → Bool) : List Nat := (List.range (N + 1)).map (cnt S)
def ker (S : Nat → Bool) : Nat → Nat
  | 0 => 0
  | c + 1 => if S c = true then c + 1 else ker S c
def no : Str := ⟨#[]⟩
def pick (ws : List Str) (S : Nat → Bool) : List Str := (idx ws.length S).map fun i => ws.getD i no
theorem idx_mem {N : Nat} {S : Nat → Bool} {i : Nat} : i ∈ idx N S ↔ i < N ∧ S i = true := by unfold idx; rw [List.mem_filter, List.mem_range]
theorem idx_sorted (N : Nat) (S : Nat → Bool) : (idx N S).Pairwise (· < ·) := List.Pairwise.filter _ List.pairwise_lt_range
theorem idx_succ (c : Nat) (S : Nat → Bool) : idx (c + 1) S = idx c S ++ (if S c = true then [c] else []) := by
  unfold idx
  rw [List.range_succ, List.filter_append]
  by_cases h : S c = true <;> simp [h]
theorem idx_len (N : Nat) (S : Nat → Bool) : (idx N S).length ≤ N := by
  unfold idx
  exact Nat.le_trans (List.length_filter_le _ _) (by simp)
theorem cnt_zero (S : Nat → Bool) : cnt S 0 = 0 := rfl
theorem cnt_succ (S : Nat → Bool) (c : Nat) : cnt S (c + 1) = cnt S c + if S c = true then 1 else 0 := by
  unfold cnt
  rw [idx_succ, List.length_append]
  by_cases h : S c = true <;> simp [h]
theorem cnt_mono {S : Nat → Bool} {a b : Nat} (h : a ≤ b) : cnt S a ≤ cnt S b := by
  induction b with
  | zero => have : a = 0 := by omega
            subst this; exact Nat.le_refl _
  | succ b ih =>
    rcases Nat.lt_or_ge a (b + 1) with h1 | h1
    · have := ih (by omega)
      rw [cnt_succ]; omega
    · have : a = b + 1 := by omega
      subst this; exact Nat.le_refl _
theorem idx_pre (S : Nat → Bool) (c d : Nat) : ∃ t, idx (c + d) S = idx c S ++ t := by
  unfold idx
  exact ⟨_, by rw [List.range_add, List.filter_append]⟩
theorem cutsL_len (N : Nat) (S : Nat → Bool) : (cutsL N S).length = cnt S N + 1 := by unfold cutsL cnt; simp
theorem cutsL_succ (c : Nat) (S : Nat → Bool) : cutsL (c + 1) S = cutsL c S ++ (if S c = true then [c + 1] else []) := by
  unfold cutsL
  rw [idx_succ]
  by_cases h : S c = true <;> simp [h]
theorem cuts_last (S : Nat → Bool) : ∀ c, (cutsL c S)[cnt S c]? = some (ker S c)
  | 0 => rfl
  | c + 1 => by
    rw [cutsL_succ, cnt_succ]
    by_cases h : S c = true
    · have hl := cutsL_len c S
      rw [if_pos h, if_pos h, List.getElem?_append_right (by omega), hl, Nat.sub_self]
      show some (c + 1) = some (ker S (c + 1))
      unfold ker
      rw [if_pos h]
    · rw [if_neg h, if_neg h, List.append_nil, Nat.add_zero, cuts_last S c]
      show some (ker S c) = some (ker S (c + 1))
      rw [show ker S (c + 1) = ker S c from by rw [ker]; exact if_neg h]
theorem cuts_at {N c : Nat} (S : Nat → Bool) (h : c ≤ N) : (cutsL N S)[cnt S c]? = some (ker S c) := by
  obtain ⟨t, ht⟩ := idx_pre S c (N - c)
  have e : c + (N - c) = N := by omega
  rw [e] at ht
  have e2 : cutsL N S = cutsL c S ++ t.map (· + 1) := by
    unfold cutsL
    rw [ht]
    simp
  rw [e2, List.getElem?_append_left (by rw [cutsL_len]; omega)]
  exact cuts_last S c
theorem cuts_mem {N c : Nat} {S : Nat → Bool} : c + 1 ∈ cutsL N S ↔ c < N ∧ S c = true := by
  unfold cutsL
  simp only [List.mem_cons, List.mem_map]
  constructor
  · rintro (h | ⟨a, ha, e⟩)
    · omega
    · have : a = c := by omega
      subst this; exact idx_mem.mp ha
  · intro h
    exact .inr ⟨c, idx_mem.mpr h, rfl⟩
theorem counts_at' {N c : Nat} (S : Nat → Bool) (h : c ≤ N) : (countsL N S)[c]? = some (cnt S c) := by
  unfold countsL
  rw [List.getElem?_map, List.getElem?_range (by omega)]
  rfl
/-! ### kernels -/
theorem ker_le (S : Nat → Bool) : ∀ c, ker S c ≤ c
  | 0 => Nat.le_refl _
  | c + 1 => by
    unfold ker
    by_cases h : S c = true
    · rw [if_pos h]; exact Nat.le_refl _
    · rw [if_neg h]; exact Nat.le_succ_of_le (ker_le S c)
theorem ker_fix (S : Nat → Bool) : ∀ c, ker S c = c ↔ c = 0 ∨ ∃ d, c = d + 1 ∧ S d = true
  | 0 => by simp [ker]
  | c + 1 => by
    have hl := ker_le S c
    unfold ker
    by_cases h : S c = true
    · simp [h]
    · simp [h]
      omega
theorem ker_idem (S : Nat → Bool) : ∀ c, ker S (ker S c) = ker S c
  | 0 => rfl
  | c + 1 => by
    by_cases h : S c = true
    · have e : ker S (c + 1) = c + 1 := by rw [ker]; exact if_pos h
      rw [e, e]
    · have e : ker S (c + 1) = ker S c := by rw [ker]; exact if_neg h
      rw [e]; exact ker_idem S c
theorem ker_mono1 (S : Nat → Bool) (c : Nat) : ker S c ≤ ker S (c + 1) := by
  rw [ker]
  have := ker_le S c
  split <;> omega
theorem ker_mono (S : Nat → Bool) {a b : Nat} (h : a ≤ b) : ker S a ≤ ker S b := by
  induction b with
  | zero => have : a = 0 := by omega
            subst this; exact Nat.le_refl _
  | succ b ih =>
    rcases Nat.lt_or_ge a (b + 1) with h1 | h1
    · exact Nat.le_trans (ih (by omega)) (ker_mono1 S b)
    · have : a = b + 1 := by omega
      subst this; exact Nat.le_refl _
/-- the greatest cut not above at which the edition stands -/
theorem ker_ge {S : Nat → Bool} {d c : Nat} (h : d ≤ c) (hd : ker S d = d) : d ≤ ker S c := by
  have := ker_mono S h
  omega
theorem ker_or (S T : Nat → Bool) : ∀ c, ker (fun i => S i || T i) c = max (ker S c) (ker T c)
  | 0 => rfl
  | c + 1 => by
    have h1 := ker_le S c
    have h2 := ker_le T c
    have ih := ker_or S T c
    unfold ker
    by_cases a : S c = true <;> by_cases b : T c = true <;> simp [a, b, ih] <;> omega
theorem ker_congr {S T : Nat → Bool} : ∀ c, (∀ i < c, S i = T i) → ker S c = ker T c
  | 0, _ => rfl
  | c + 1, h => by
    unfold ker
    rw [h c (by omega), ker_congr c fun i hi => h i (by omega)]
theorem ker_all : ∀ c, ker (fun _ => true) c = c
  | 0 => rfl
  | c + 1 => by simp [ker]
theorem ker_none : ∀ c, ker (fun _ => false) c = 0
  | 0 => rfl
  | c + 1 => by
    rw [ker]
    simp [ker_none c]
theorem ker_sub {S T : Nat → Bool} {N : Nat} : (∀ i < N, S i = true → T i = true) ↔ ∀ c ≤ N, ker S c ≤ ker T c := by
  constructor
  · intro h c hc
    have h1 : ker T (ker S c) = ker S c := by
      rw [ker_fix]
      rcases (ker_fix S (ker S c)).mp (ker_idem S c) with e | ⟨d, e, hd⟩
      · exact .inl e
      · have := ker_le S c
        exact .inr ⟨d, e, h d (by omega) hd⟩
    exact ker_ge (ker_le S c) h1
  · intro h i hi hS
    have h1 := h (i + 1) (by omega)
    have h2 : ker S (i + 1) = i + 1 := by rw [ker]; exact if_pos hS
    have h3 := ker_le T (i + 1)
    have h4 : ker T (i + 1) = i + 1 := by omega
    rcases (ker_fix T (i + 1)).mp h4 with e | ⟨d, e, hd⟩
    · omega
    · have : d = i := by omega
      subst this; exact hd
/-- so many passages end at a cut at most just if the cut is at least behind them -/
theorem cuts_le_iff {N c n : Nat} {S : Nat → Bool} {x : Nat} (hc : c ≤ N) (h : (cutsL N S)[n]? = some x) : x ≤ c ↔ n ≤ cnt S c := by
  have srt : (cutsL N S).Pairwise (· < ·) := by
    unfold cutsL
    refine List.pairwise_cons.mpr ⟨fun a ha => ?_, ?_⟩
    · obtain ⟨b, _, e⟩ := List.mem_map.mp ha
      omega
    · refine List.Pairwise.map _ (fun a b hab => ?_) (idx_sorted N S)
      omega
  have hk := cuts_at S hc
  obtain ⟨l1, e1⟩ := List.getElem?_eq_some_iff.mp h
  obtain ⟨l2, e2⟩ := List.getElem?_eq_some_iff.mp hk
  have hkl := ker_le S c
  constructor
  · intro hx
    rcases Nat.lt_or_ge (cnt S c) n with hn | hn
    · exfalso
      have h1 := List.pairwise_iff_getElem.mp srt (cnt S c) n l2 l1 hn
      rw [e1, e2] at h1
      -- x stands in S and is at most c, so it is at most the kernel
      cases n with
      | zero => omega
      | succ n =>
        have h2 : x ∈ (idx N S).map (· + 1) := by
          unfold cutsL at h
          have : ((idx N S).map (· + 1))[n]? = some x := h
          exact List.mem_of_getElem? this
        obtain ⟨d, hd, e⟩ := List.mem_map.mp h2
        have e : d + 1 = x := e
        have h3 : ker S x = x := (ker_fix S x).mpr (.inr ⟨d, e.symm, (idx_mem.mp hd).2⟩)
        have := ker_ge hx h3
        omega
    · exact hn
  · intro hn
    rcases Nat.lt_or_ge n (cnt S c) with h1 | h1
    · have h2 := List.pairwise_iff_getElem.mp srt n (cnt S c) l1 l2 h1
      rw [e1, e2] at h2
      omega
    · have : n = cnt S c := by omega
      subst this
      rw [hk] at h
      have := Option.some.inj h
      omega
theorem cnt_cuts {N n : Nat} {S : Nat → Bool} {x : Nat} (h : (cutsL N S)[n]? = some x) : x ≤ N ∧ cnt S x = n := by
  have hn : n ≤ cnt S N := by
    have := (List.getElem?_eq_some_iff.mp h).1
    rw [cutsL_len] at this
    omega
  have hx : x ≤ N := (cuts_le_iff (Nat.le_refl N) h).mpr hn
  refine ⟨hx, ?_⟩
  have h1 := (cuts_le_iff hx h).mp (Nat.le_refl _)
  rcases Nat.lt_or_ge n (cnt S x) with h2 | h2
  · exfalso
    have hk := cuts_at S hx
    have h3 := (cuts_le_iff (c := x) hx (n := n + 1) (x := (cutsL N S).getD (n + 1) 0) ?_).mpr h2
    · have srt : (cutsL N S).Pairwise (· < ·) := by
        unfold cutsL
        refine List.pairwise_cons.mpr ⟨fun a ha => ?_, ?_⟩
        · obtain ⟨b, _, e⟩ := List.mem_map.mp ha
          omega
        · refine List.Pairwise.map _ (fun a b hab => ?_) (idx_sorted N S)
          omega
      have l2 : n + 1 < (cutsL N S).length := by
        have := (List.getElem?_eq_some_iff.mp hk).1
        omega
      obtain ⟨l1, e1⟩ := List.getElem?_eq_some_iff.mp h
      have h4 := List.pairwise_iff_getElem.mp srt n (n + 1) l1 l2 (by omega)
      rw [List.getD_eq_getElem?_getD, List.getElem?_eq_getElem l2] at h3
      simp at h3
      omega
    · have l2 : n + 1 < (cutsL N S).length := by
        have := (List.getElem?_eq_some_iff.mp hk).1
        omega
      rw [List.getD_eq_getElem?_getD, List.getElem?_eq_getElem l2]
      rfl
  · omega
end Lm

namespace Lm
open PySem L2
def top (i : Nat) : Stmt := PySem.Challenge.pw_leafmarks_k08_whole_kernels_of_joined_ed.main.body.getD i (.Pass ⟨0, 0, 0, 0⟩)
end Lm

namespace Lm
open PySem L2
/-- what the walk asks of the built-in names -/
structure Blt (mg : Str → Option Value) : Prop where
  b_len : mg "len" = none
  b_int : mg "int" = none
  b_range : mg "range" = none
  b_enumerate : mg "enumerate" = none
  b_isinstance : mg "isinstance" = none
  b_list : mg "list" = none
  b_tuple : mg "tuple" = none
  b_str : mg "str" = none
  b_bool : mg "bool" = none
  b_all : mg "all" = none
  b_max : mg "max" = none
  b_zip : mg "zip" = none
section
variable {P : Program} {w : World} {K : PySem.W.Frag} {mg : Str → Option Value} {base : Heap} {f : Addr} {fd : FuncData}
def spFresh (K : PySem.W.Frag) : Sp := fun vs H Q _ => ∃ (a : Addr) (ns : List Int), vs = [.ref a] ∧ SqL K H a (ns.map V.int) ∧ ns.length ≤ 63 ∧ ∀ p c H', H p = none → H c = none → Same H H' → StAt H' p c → Q (.ref p) H'
abbrev s_fresh : Stmt := top 24
theorem sc_fresh : FnScope ["_law_script"] ["_law_script"] (defScope s_fresh) := ⟨rfl, rfl, rfl, by decide +kernel, rfl, by decide +kernel, by decide +kernel⟩
theorem ok_fresh (F : Fun K "_law_fresh" "_law_fresh" s_fresh f fd) (T : Blt mg) : FnOk P w K mg base CX0 1 f fd ["_law_script"] (spFresh K) := by
  refine F.ok sc_fresh (fun vs H Q E h => ?_) (fun cdv A outer s H vs Q E hr h => ?_)
  · obtain ⟨a, ns, rfl, _⟩ := h
    rfl
  · obtain ⟨a, ns, rfl, hS, hl, k⟩ := h
    refine ⟨_, (pss_one (ps_ret (pe_lst (pa_cons (pe_slice sl_list (pv 0) po_none (po_some pe_int)) (pa_cons pe_int (pa_cons pe_int (pa_cons pe_bl pa_nil))))))), ?_⟩
    have hc : cutV (ns.map V.int) none (some 63) = (ns.map V.int) := by
      have e : (ns.map V.int).length = ns.length := List.length_map ..
      unfold cutV
      rw [HT.sIx_none, show (some (63 : Int)) = some ((63 : Nat) : Int) from rfl, HT.sIx_nat, List.drop_zero, e, Nat.min_eq_right hl, Nat.sub_zero, ← e, List.take_length]
    refine ⟨_, rfl, ⟨63, rfl, a, _, rfl, hS, fun c nc => ⟨by show 4 ≤ sizeLine; decide, fun p np => ?_⟩⟩⟩
    have hpc : p ≠ c := (ne_of_none upd_same np).symm
    have np' : H p = none := by rw [← upd_ne (H := H) (o := .lst (cutV (ns.map V.int) none (some 63))) hpc]; exact np
    refine k p c _ np' nc ((Same.upd' nc).trans (Same.upd' np)) ⟨⟨0, 0, false, upd_same⟩, ⟨ns, ?_, hl⟩, hpc.symm⟩
    rw [upd_ne hpc.symm, upd_same, hc]
end
end Lm

namespace Lm
open PySem L2
theorem mem_at {xs : List V} {i : Nat} {x : V} (h : xs[i]? = some x) : x ∈ xs := List.mem_of_getElem? h
theorem fmod_bd (a : Int) {p : Int} (h : 0 < p) : 0 ≤ Int.fmod a p ∧ Int.fmod a p < p := ⟨Int.fmod_nonneg_of_pos a h, Int.fmod_lt_of_pos a h⟩
/-- exactly evaluated: a value, the heap as it was -/
def Vx (te : TE) (σ : St) (H : Hp) (v : V) : Prop := ∀ Q : VK, Q v H → te σ H Q
theorem vx_or {ta tb : TE} {σ : St} {H : Hp} {a b : Bool} (h1 : Vx ta σ H (.bl a)) (h2 : Vx tb σ H (.bl b)) : Vx (tOrV ta tb) σ H (.bl (a || b)) := by
  intro Q q
  refine h1 _ ⟨a, rfl, ?_⟩
  cases a
  · exact iteF (h2 _ q)
  · exact iteT q
theorem vx_and {ta tb : TE} {σ : St} {H : Hp} {a b : Bool} (h1 : Vx ta σ H (.bl a)) (h2 : Vx tb σ H (.bl b)) : Vx (tAndV ta tb) σ H (.bl (a && b)) := by
  intro Q q
  refine h1 _ ⟨a, rfl, ?_⟩
  cases a
  · exact iteF q
  · exact iteT (h2 _ q)
theorem sq_asgB {te : TE} {g : TG} {tz : TS} {D : Ends} {σ : St} {H : Hp} (h : ∀ Q : VK, (∀ b : Bool, Q (.bl b) H) → te σ H Q) (k : ∀ b : Bool, g (.bl b) σ H (tz D)) : tSeq (tAsg te g) tz D σ H := h _ k
section
variable {P : Program} {w : World} {K : PySem.W.Frag} {mg : Str → Option Value} {base : Heap} {f : Addr} {fd : FuncData}
def spFill : Sp := fun vs H Q _ => ∃ (st c : Addr), vs = [.ref st] ∧ StAt H st c ∧ ∀ H', StAt H' st c → Kp st H H' → Q .non H'
abbrev s_fill : Stmt := top 25
theorem sc_fill : FnScope ["_law_state", "_law_cells", "_law_nth", "_law_seed", "_law_k", "_law_prime", "_law_far"] ["_law_state"] (defScope s_fill) := ⟨rfl, rfl, rfl, by decide +kernel, rfl, by decide +kernel, by decide +kernel⟩
theorem ok_fill (F : Fun K "_law_fill" "_law_fill" s_fill f fd) (T : Blt mg) : FnOk P w K mg base CX0 1 f fd ["_law_state"] spFill := by
  refine F.ok sc_fill (fun vs H Q E h => ?_) (fun cdv A outer s H vs Q E hr h => ?_)
  · obtain ⟨st, c, rfl, _⟩ := h
    rfl
  · obtain ⟨st, c, rfl, S, k⟩ := h
    obtain ⟨⟨n, l, b, h1⟩, ⟨ns, h2, hl⟩, ne⟩ := id S
    refine ⟨_, (pss_cons (ps_par (i := 1) (j := 2) (by rfl) sc_fill.nd rfl rfl (by decide) rfl rfl (pa_cons (pe_ix ix_list (pv 0) pe_int (fun _ _ => rfl)) (pa_cons (pe_ix ix_list (pv 0) pe_int (fun _ _ => rfl)) pa_nil)) (by rfl))
        (pss_cons (ps_set (i := 3) sc_fill.nd rfl (by first | exact Or.inl rfl | exact Or.inr rfl) (pe_op op_add (pe_op op_mul pe_int (pv 2)) pe_int))
        (Evl.pss_cut (ps_if (pt_cmpR op_gt (pe_callB call_len_seq (by rfl) T.b_len PySem.boot_len (pa_cons (pv 1) pa_nil)) pe_int (nomark _)) (pss_one (ps_set (i := 3) sc_fill.nd rfl (by first | exact Or.inl rfl | exact Or.inr rfl) (pe_op op_add (pe_op op_mul pe_int (pe_op op_fdivN (pv 2) (pe_callB call_len_seq (by rfl) T.b_len PySem.boot_len (pa_cons (pv 1) pa_nil)))) (pe_ix ix_list (pv 1) (pe_op op_modN (pe_callTy call_int1 (by rfl) T.b_int (by decide +kernel) (pa_cons (pv 2) pa_nil)) (pe_callB call_len_seq (by rfl) T.b_len PySem.boot_len (pa_cons (pv 1) pa_nil))) (fun _ _ => rfl))))) pss_nil)
        (pss_cons (ps_asg (pe_op op_add (pv 2) pe_int) (pg_sub (pv 0) pe_int set_list))
        (pss_cons (ps_asg (pe_or (pe_cmpR op_ge (pv 2) (pe_callB call_len_seq (by rfl) T.b_len PySem.boot_len (pa_cons (pv 1) pa_nil)) (nomark _)) (pe_one (pe_cmpR op_lt (pv 3) (pe_op op_pow pe_int pe_int) (nomark _)))) (pg_sub (pv 0) pe_int set_list))
        (pss_cons (ps_asg (pe_op op_sub (pv 3) (pe_op op_pow pe_int pe_int)) (pg_sub (pv 0) pe_int set_list))
        (pss_one (ps_if (pt_val (pe_ix ix_list (pv 0) pe_int (fun _ _ => rfl))) (pss_cons (ps_asg pe_int (pg_sub (pv 0) pe_int set_list))
        (pss_one (ps_for PassesOwn.never rfl (pi_enumA rfl T.b_enumerate (pa_cons (pe_tup (pa_cons pe_int (pa_cons pe_int (pa_cons pe_int (pa_cons pe_int (pa_cons pe_int pa_nil)))))) pa_nil)) (pg_tup rfl (pgs_cons (pg_name (i := 4) sc_fill.nd rfl (by first | exact Or.inl rfl | exact Or.inr rfl)) (pgs_cons (pg_name (i := 5) sc_fill.nd rfl (by first | exact Or.inl rfl | exact Or.inr rfl)) pgs_nil))) (pss_cons (ps_set (i := 6) sc_fill.nd rfl (by first | exact Or.inl rfl | exact Or.inr rfl) (pe_op op_modN (pe_callTy call_int1 (by rfl) T.b_int (by decide +kernel) (pa_cons (pe_op op_mul (pe_op op_add (pe_op op_add (pv 3) (pe_op op_mul (pe_op op_mul pe_int (pv 4)) (pv 4))) (pe_op op_mul pe_int (pv 4))) (pe_op op_add pe_int (pe_op op_mul pe_int (pv 4)))) pa_nil)) (pv 5)))
        (pss_one (ps_asg (pe_op op_add (pe_op op_mul (pe_ix ix_list (pv 0) pe_int (fun _ _ => rfl)) (pv 5)) (pe_op op_modN (pe_callTy call_int1 (by rfl) T.b_int (by decide +kernel) (pa_cons (pe_op op_pow (pv 6) pe_int) pa_nil)) (pv 5))) (pg_sub (pv 0) pe_int set_list))))))) pss_nil)))))))), ?_⟩
    refine ⟨_, rfl, _, _, _, _, rfl, rfl, SqL.of h1, rfl, _, rfl, _, _, _, _, rfl, rfl, SqL.of h1, rfl, _, _, rfl, ?_⟩
    refine ⟨_, rfl, _, _, rfl, rfl, .inl ⟨by decide, by decide⟩, _, _, rfl, rfl, ?_⟩
    refine ⟨fun σ' H' => H = H' ∧ ∃ seed : Int, σ' = [some (.ref st), some (.ref c), some (.int n), some (.int seed), none, none, none], ?_, ?_⟩
    · refine ⟨_, rfl, _, _, rfl, .inl (SqL.of h2), _, _, rfl, rfl, _, rfl, ite2 (fun hp => ?_) (fun _ => ⟨rfl, _, rfl⟩)⟩
      have e : (ns.map V.int).length = ns.length := List.length_map ..
      have hp : 0 < ns.length := by
        have hp := of_decide_eq_true hp
        rw [e] at hp; omega
      refine ⟨_, rfl, _, rfl, _, _, rfl, .inl (SqL.of h2), _, _, rfl, rfl, ⟨by rw [e]; omega, by rw [e]; omega⟩, _, _, rfl, rfl, .inl ⟨by decide, by decide⟩, ?_⟩
      obtain ⟨m1, m2⟩ := fmod_bd n (p := ((ns.map V.int).length : Int)) (by rw [e]; omega)
      have hj : (Int.fmod n ((ns.map V.int).length : Int)).toNat < ns.length := by rw [e] at m1 m2 ⊢; omega
      refine ⟨_, rfl, _, rfl, .inl ⟨_, rfl, _, rfl, _, _, rfl, .inl (SqL.of h2), _, _, rfl, rfl, by rw [e]; omega, _, _, _, _, rfl, rfl, SqL.of h2, at_of (j := (Int.fmod n ((ns.map V.int).length : Int)).toNat) (Int.toNat_of_nonneg m1).symm (by rw [List.getElem?_map, List.getElem?_eq_getElem hj]; rfl), _, _, rfl, rfl, ⟨rfl, _, rfl⟩⟩⟩
    · rintro σ' H' ⟨rfl, seed, rfl⟩
      refine ⟨_, rfl, _, _, rfl, rfl, _, rfl, _, _, _, _, rfl, rfl, h1, rfl, ?_⟩
      generalize hH1 : upd H st _ = H1
      have g1 : H1 st = some (.lst [.ref c, .int (n + 1), .int l, .bl b]) := by rw [← hH1]; exact upd_same
      have g2 : H1 c = some (.lst (ns.map V.int)) := by rw [← hH1, upd_ne ne]; exact h2
      have kp1 : Kp st H H1 := by rw [← hH1]; exact Kp.upd _ _ _
      clear hH1
      -- far or not
      dsimp only
      refine sq_asgB (fun Q q => ?_) fun b' => ?_
      · refine ⟨_, rfl, _, rfl, _, _, rfl, .inl (SqL.of g2), _, _, rfl, rfl, _, rfl, ite2 (fun _ => q true) (fun _ => ?_)⟩
        exact ⟨_, rfl, _, _, rfl, rfl, ⟨by decide, by decide, by decide⟩, _, _, rfl, rfl, q _⟩
      refine ⟨_, rfl, _, _, _, _, rfl, rfl, g1, rfl, ?_⟩
      generalize hH2 : upd H1 st _ = H2
      have g3 : H2 st = some (.lst [.ref c, .int (n + 1), .int l, .bl b']) := by rw [← hH2]; exact upd_same
      have g4 : H2 c = some (.lst (ns.map V.int)) := by rw [← hH2, upd_ne ne]; exact g2
      have kp2 : Kp st H H2 := by rw [← hH2]; exact kp1.trans (Kp.upd _ _ _)
      clear hH2
      refine ⟨_, rfl, _, _, rfl, rfl, ⟨by decide, by decide, by decide⟩, _, _, rfl, rfl, _, rfl, _, _, _, _, rfl, rfl, g3, rfl, ?_⟩
      generalize hH3 : upd H2 st _ = H3
      obtain ⟨l3, g5⟩ : ∃ l3, H3 st = some (.lst [.ref c, .int (n + 1), .int l3, .bl b']) := ⟨_, by rw [← hH3]; exact upd_same⟩
      have g6 : H3 c = some (.lst (ns.map V.int)) := by rw [← hH3, upd_ne ne]; exact g4
      have kp3 : Kp st H H3 := by rw [← hH3]; exact kp2.trans (Kp.upd _ _ _)
      clear hH3
      refine ⟨_, rfl, _, _, _, _, rfl, rfl, SqL.of g5, rfl, _, rfl, ite2 (fun _ => ?_) (fun _ => k _ ⟨⟨_, _, _, g5⟩, ⟨ns, g6, hl⟩, ne⟩ kp3)⟩
      refine ⟨_, rfl, _, _, _, _, rfl, rfl, g5, rfl, ?_⟩
      generalize hH4 : upd H3 st _ = H4
      have g7 : H4 st = some (.lst [.ref c, .int (n + 1), .int 0, .bl b']) := by rw [← hH4]; exact upd_same
      have g8 : H4 c = some (.lst (ns.map V.int)) := by rw [← hH4, upd_ne ne]; exact g6
      have kp4 : Kp st H H4 := by rw [← hH4]; exact kp3.trans (Kp.upd _ _ _)
      clear hH4
      refine ⟨by show 5 ≤ sizeLine; decide, fun t nt => ?_⟩
      have hts : t ≠ st := (ne_of_none g7 nt).symm
      have htc : t ≠ c := (ne_of_none g8 nt).symm
      refine ⟨t, _, rfl, .inr ⟨SqT.of upd_same, for_it (walk_enumT (K := K) (xs := [V.int 2147483647, V.int 2147483629, V.int 2147483587, V.int 2147483579, V.int 2147483563])) (fun i σ' H' => ∃ (u v x : Option V) (l' : Int), σ' = [some (.ref st), some (.ref c), some (.int n), some (.int seed), u, v, x] ∧ Kp st (upd H4 t (.tup [V.int 2147483647, V.int 2147483629, V.int 2147483587, V.int 2147483579, V.int 2147483563])) H' ∧ H' st = some (.lst [.ref c, .int (n + 1), .int l', .bl b'])) ?_ ?_ ?_ ?_⟩⟩
      · exact ⟨_, _, _, _, rfl, Kp.refl _ _, by rw [upd_ne hts.symm]; exact g7⟩
      · rintro i σ' H' _ ⟨u, v, x, l', rfl, e, _⟩
        exact SqT.of (e _ _ hts upd_same)
      · rintro i y σ' H' H'' hi ⟨u, v, x, l', rfl, e, e2⟩ ⟨T, x1, x2, rfl, nT, rfl, hx1, hx2⟩
        obtain ⟨pr, rfl, pr0, pr1⟩ : ∃ pr : Int, x2 = .int pr ∧ 0 < pr ∧ pr < 2147483648 := by
          have hm := mem_at hx2
          simp only [List.mem_cons, List.not_mem_nil, or_false] at hm
          rcases hm with rfl | rfl | rfl | rfl | rfl <;> exact ⟨_, rfl, by decide, by decide⟩
        cases (Option.some.inj hx1)
        have hi : i < 5 := hi
        have hTs : T ≠ st := (ne_of_none e2 nT).symm
        refine ⟨T, _, rfl, SqT.of upd_same, rfl, _, _, rfl, _, _, rfl, rfl, ?_⟩
        refine ⟨_, rfl, _, rfl, _, _, rfl, rfl, .inl ⟨by decide, by decide⟩, _, rfl, _, _, rfl, rfl, .inr ⟨by omega, by omega⟩, _, _, rfl, rfl, ?_⟩
        refine ⟨_, rfl, _, _, rfl, rfl, .inl ⟨by decide, by decide⟩, _, _, rfl, rfl, _, rfl, _, _, rfl, rfl, .inl ⟨by decide, by decide⟩, _, _, rfl, rfl, _, _, rfl, rfl, .inr ⟨by omega, by omega⟩, ?_⟩
        refine .inl ⟨_, rfl, _, rfl, _, _, rfl, rfl, by omega, ?_⟩
        generalize hfar : Int.fmod _ pr = far
        have hfar2 := fmod_bd (((seed + 10007 * (i : Int) * (i : Int) + 101 * (i : Int)) * (48271 + 2 * (i : Int)))) pr0
        rw [hfar] at hfar2
        refine ⟨_, rfl, _, _, _, _, rfl, rfl, SqL.of (by rw [upd_ne hTs.symm]; exact e2), rfl, _, rfl, _, _, rfl, rfl, .inr ⟨by omega, by omega⟩, ?_⟩
        refine ⟨_, rfl, _, _, rfl, rfl, ⟨by decide, by decide, by omega⟩, .inl ⟨_, rfl, _, rfl, _, _, rfl, rfl, by omega, _, _, rfl, rfl, _, rfl, _, _, _, _, rfl, rfl, by rw [upd_ne hTs.symm]; exact e2, rfl, ?_⟩⟩
        refine ⟨_, _, _, _, rfl, (e.trans (Kp.of (Same.upd' nT))).trans (Kp.upd _ _ _), upd_same⟩
      · rintro σ' H' ⟨u, v, x, l', rfl, e, e2⟩
        exact k _ ⟨⟨_, _, _, e2⟩, ⟨ns, e _ _ ne (by rw [upd_ne htc.symm]; exact g8), hl⟩, ne⟩ ((kp4.trans (Kp.of (Same.upd' nt))).trans e)
end
end Lm

namespace Lm
open PySem L2
/-! ### what is wanted may be weakened -/
def MonE (te : TE) : Prop := ∀ σ H (Q Q' : VK), (∀ v H1, Q v H1 → Q' v H1) → te σ H Q → te σ H Q'
def MonT (tt : TT) : Prop := ∀ σ H (Q Q' : Bool → Hp → Prop), (∀ b H1, Q b H1 → Q' b H1) → tt σ H Q → tt σ H Q'
def MonR (r : R2) : Prop := ∀ x y H (Q Q' : VK), (∀ v H1, Q v H1 → Q' v H1) → r x y H Q → r x y H Q'
theorem monE_var {i : Nat} : MonE (tVar i) := fun σ H Q Q' h ⟨v, e, q⟩ => ⟨v, e, h _ _ q⟩
theorem monE_c {v : V} : MonE (tC v) := fun σ H Q Q' h q => h _ _ q
theorem monE_op {r : R2} {ta tb : TE} (hr : MonR r) (ha : MonE ta) (hb : MonE tb) : MonE (tOp r ta tb) := fun σ H Q Q' h q => ha _ _ _ _ (fun x H1 q => hb _ _ _ _ (fun y H2 q => hr _ _ _ _ _ h q) q) q
theorem mon_I0 {g : Int → Int → V} : MonR (rI0 g) := fun x y H Q Q' h ⟨i, j, e1, e2, q⟩ => ⟨i, j, e1, e2, h _ _ q⟩
theorem mon_I {C : Int → Int → Prop} {g : Int → Int → V} : MonR (rI C g) := fun x y H Q Q' h ⟨i, j, e1, e2, c, q⟩ => ⟨i, j, e1, e2, c, h _ _ q⟩
theorem mon_ixL {K : PySem.W.Frag} : MonR (rIxL K) := fun x y H Q Q' h ⟨p, xs, i, v, e1, e2, e3, e4, q⟩ => ⟨p, xs, i, v, e1, e2, e3, e4, h _ _ q⟩
theorem mon_eq : MonR rEq := fun x y H Q Q' h ⟨e, q⟩ => ⟨e, h _ _ q⟩
theorem monT_test {te : TE} (he : MonE te) : MonT (tTest te) := fun σ H Q Q' h q => he _ _ _ _ (fun x H1 ⟨k, e, q⟩ => ⟨k, e, h _ _ q⟩) q
theorem monT_B {te : TE} (he : MonE te) : MonT (tB te) := fun σ H Q Q' h q => he _ _ _ _ (fun x H1 ⟨k, e, q⟩ => ⟨k, e, h _ _ q⟩) q
theorem monT_and {t u : TT} (ht : MonT t) (hu : MonT u) : MonT (tAnd t u) := fun σ H Q Q' h q => ht _ _ _ _ (fun b H1 q => by cases b with | true => exact hu _ _ _ _ h q | false => exact h _ _ q) q
theorem monT_or {t u : TT} (ht : MonT t) (hu : MonT u) : MonT (tOr t u) := fun σ H Q Q' h q => ht _ _ _ _ (fun b H1 q => by cases b with | true => exact h _ _ q | false => exact hu _ _ _ _ h q) q
section
variable {P : Program} {w : World} {K : PySem.W.Frag} {mg : Str → Option Value} {base : Heap} {f : Addr} {fd : FuncData}
def spTake : Sp := fun vs H Q _ => ∃ (st c : Addr) (m : Int), vs = [.ref st, .int m] ∧ StAt H st c ∧ 0 < m ∧ m < 1073741824 ∧ ∀ d H', 0 ≤ d → d < m → StAt H' st c → Kp st H H' → Q (.int d) H'
abbrev s_take : Stmt := top 26
theorem sc_take : FnScope ["_law_state", "_law_many", "_law_laps", "_law_digit"] ["_law_state", "_law_many"] (defScope s_take) := ⟨rfl, rfl, rfl, by decide +kernel, rfl, by decide +kernel, by decide +kernel⟩
theorem ok_take {fF : Addr} {fdF : FuncData} (F : Fun K "_law_take" "_law_take" s_take f fd) (T : Blt mg) (D_fill : DefOk P w K mg base 1 "_law_fill" fF fdF ["_law_state"] spFill) : FnOk P w K mg base CX0 2 f fd ["_law_state", "_law_many"] spTake := by
  refine F.ok sc_take (fun vs H Q E h => ?_) (fun cdv A outer s H vs Q E hr h => ?_)
  · obtain ⟨st, c, m, rfl, _⟩ := h
    rfl
  · obtain ⟨st, c, m, rfl, S, m0, m1, k⟩ := h
    refine ⟨_, (pss_cons (ps_set (i := 2) sc_take.nd rfl (by first | exact Or.inl rfl | exact Or.inr rfl) pe_int)
        (pss_cons (ps_while PassesOwn.never (PW.pt (pw_and (pt_cmpR op_lt (pv 2) pe_int (nomark _)) (pw_and1 (PW.pt (pw_or (pt_cmpR op_eq (pe_ix ix_list (pv 0) pe_int (fun _ _ => rfl)) pe_int (nomark _)) (pw_or1 (PW.pt (pw_and (pt_val (pe_ix ix_list (pv 0) pe_int (fun _ _ => rfl))) (pw_and1 (pt_cmpR op_lt (pe_ix ix_list (pv 0) pe_int (fun _ _ => rfl)) (pe_op op_mul (pv 1) pe_int) (nomark _))))))))))) (pss_cons (ps_expr (pe_d D_fill (hr.mono (by decide)) (pa_cons (pv 0) pa_nil)))
        (pss_cons (ps_aug (i := 2) sc_take.nd rfl (by first | exact Or.inl rfl | exact Or.inr rfl) pe_int ip_add)
        (pss_one (ps_if (PW.pt (pw_and (pt_val (pe_ix ix_list (pv 0) pe_int (fun _ _ => rfl))) (pw_and1 (pt_cmpR op_lt (pe_ix ix_list (pv 0) pe_int (fun _ _ => rfl)) (pe_op op_mul (pv 1) pe_int) (nomark _))))) (pss_one (ps_asg (pe_op op_add (pe_ix ix_list (pv 0) pe_int (fun _ _ => rfl)) (pe_op op_mul (pe_op op_mul (pv 1) pe_int) (pe_op op_add pe_int (pe_op op_modN (pe_callTy call_int1 (by rfl) T.b_int (by decide +kernel) (pa_cons (pe_ix ix_list (pv 0) pe_int (fun _ _ => rfl)) pa_nil)) pe_int)))) (pg_sub (pv 0) pe_int set_list))) pss_nil)))))
        (pss_cons (ps_set (i := 3) sc_take.nd rfl (by first | exact Or.inl rfl | exact Or.inr rfl) (pe_op op_modN (pe_callTy call_int1 (by rfl) T.b_int (by decide +kernel) (pa_cons (pe_ix ix_list (pv 0) pe_int (fun _ _ => rfl)) pa_nil)) (pv 1)))
        (pss_cons (ps_asg (pe_op op_fdivN (pe_ix ix_list (pv 0) pe_int (fun _ _ => rfl)) (pv 1)) (pg_sub (pv 0) pe_int set_list))
        (pss_one (ps_ret (pv 3))))))), ?_⟩
    refine while_by (fun σ' H' => ∃ (i : Nat), σ' = [some (.ref st), some (.int m), some (.int (i : Int)), none] ∧ i ≤ 64 ∧ StAt H' st c ∧ Kp st H H') (fun σ' _ => match σ' with | [_, _, some (.int i), _] => (64 - i).toNat | _ => 0) ⟨0, rfl, by decide, S, Kp.refl _ _⟩ ?_ ?_
    · rintro σ' H' ⟨i, rfl, hi, S', e⟩
      obtain ⟨⟨n, l, b, h1⟩, ⟨ns, h2, hl⟩, ne⟩ := id S'
      -- behind the loop
      have after : tSeq (tAsg (tOp (rI (fun x j => j ≠ 0) fun i j => V.int (i.fmod j)) (tCB (fun xs H Q => (∃ i, xs = [V.int i] ∧ Q (V.int i) H) ∨ ∃ k, xs = [V.bl k] ∧ Q (V.int (if k = true then 1 else 0)) H) (tCons (tOp (rIxL K) (tVar 0) (tC (.int 2))) tNil)) (tVar 1)) (gName 3))
          (tSeq (tAsg (tOp (rI CDivN fun i j => .int (i.fdiv j)) (tOp (rIxL K) (tVar 0) (tC (.int 2))) (tVar 1)) (gSub (tVar 0) (tC (.int 2)) rSetL)) (tRet (tVar 3))) { nx := fun _ H' => Q .non H', rt := Q } [some (.ref st), some (.int m), some (.int (i : Int)), none] H' := by
        refine ⟨_, rfl, _, _, _, _, rfl, rfl, SqL.of h1, rfl, .inl ⟨_, rfl, _, rfl, _, _, rfl, rfl, by omega, ?_⟩⟩
        have hd := fmod_bd l m0
        refine ⟨_, rfl, _, _, _, _, rfl, rfl, SqL.of h1, rfl, _, rfl, _, _, rfl, rfl, ⟨by omega, by omega⟩, _, rfl, _, _, _, _, rfl, rfl, h1, rfl, _, rfl, ?_⟩
        exact k _ _ hd.1 hd.2 ⟨⟨_, _, _, upd_same⟩, ⟨ns, by rw [upd_ne ne]; exact h2, hl⟩, ne⟩ (e.trans (Kp.upd _ _ _))
      refine ⟨_, rfl, _, _, rfl, rfl, _, rfl, ite2 (fun hc => ?_) (fun _ => iteF after)⟩
      have hc : i < 64 := by have := of_decide_eq_true hc; omega
      refine ⟨_, rfl, _, _, _, _, rfl, rfl, SqL.of h1, rfl, rfl, _, rfl, ite2 (fun _ => ?b1) (fun _ => ⟨_, rfl, _, _, _, _, rfl, rfl, SqL.of h1, rfl, _, rfl, ite2 (fun _ => ⟨_, rfl, _, _, _, _, rfl, rfl, SqL.of h1, rfl, _, rfl, _, _, rfl, rfl, .inr ⟨by decide, by decide⟩, _, _, rfl, rfl, _, rfl, ite2 (fun _ => ?b2) (fun _ => ?c1)⟩) (fun _ => ?c2)⟩)⟩
      case c1 => exact after
      case c2 => exact after
      all_goals
        refine ⟨_, rfl, st, c, rfl, S', fun H2 S2 e2 => ?_⟩
        obtain ⟨⟨n2, l2, b2, g1⟩, ⟨ns2, g2, gl⟩, _⟩ := id S2
        have fin : ∀ H3, StAt H3 st c → Kp st H2 H3 → (∃ j : Nat, [some (V.ref st), some (.int m), some (.int ((i : Int) + 1)), none] = [some (.ref st), some (.int m), some (.int (j : Int)), none] ∧ j ≤ 64 ∧ StAt H3 st c ∧ Kp st H H3) ∧ (64 - ((i : Int) + 1)).toNat < (64 - (i : Int)).toNat :=
          fun H3 S3 e3 => ⟨⟨i + 1, by simp, by omega, S3, (e.trans e2).trans e3⟩, by omega⟩
        refine ⟨_, rfl, _, _, rfl, rfl, ?_⟩
        refine ⟨_, rfl, _, _, _, _, rfl, rfl, SqL.of g1, rfl, _, rfl, ite2 (fun _ => ⟨_, rfl, _, _, _, _, rfl, rfl, SqL.of g1, rfl, _, rfl, _, _, rfl, rfl, .inr ⟨by decide, by decide⟩, _, _, rfl, rfl, _, rfl, ite2 (fun _ => ?_) (fun _ => fin _ S2 (Kp.refl _ _))⟩) (fun _ => fin _ S2 (Kp.refl _ _))⟩
        have hr2 := fmod_bd l2 (p := 4093) (by decide)
        refine ⟨_, rfl, _, _, _, _, rfl, rfl, SqL.of g1, rfl, _, rfl, _, _, rfl, rfl, .inr ⟨by decide, by decide⟩, _, rfl, _, _, _, _, rfl, rfl, SqL.of g1, rfl, .inl ⟨_, rfl, _, _, rfl, rfl, (by show (4093 : Int) ≠ 0; decide), _, _, rfl, rfl, _, _, rfl, rfl, .inr ⟨by omega, by omega⟩, _, _, rfl, rfl, _, rfl, _, _, _, _, rfl, rfl, g1, rfl, ?_⟩⟩
        exact fin _ ⟨⟨_, _, _, upd_same⟩, ⟨ns2, by rw [upd_ne ne]; exact g2, gl⟩, ne⟩ (Kp.upd _ _ _)
    · exact monT_and (monT_test (monE_op mon_I0 (monE_var) (monE_c))) (monT_or (monT_test (monE_op mon_eq (monE_op mon_ixL monE_var monE_c) monE_c)) (monT_and (monT_B (monE_op mon_ixL monE_var monE_c)) (monT_test (monE_op mon_I0 (monE_op mon_ixL monE_var monE_c) (monE_op mon_I monE_var monE_c)))))
end
end Lm

namespace Lm
open PySem L2
section
variable {P : Program} {w : World} {K : PySem.W.Frag} {mg : Str → Option Value} {base : Heap} {f : Addr} {fd : FuncData}
def spOne (K : PySem.W.Frag) : Sp := fun vs H Q _ => ∃ (st c t : Addr) (xs : List V), vs = [.ref st, .ref t] ∧ StAt H st c ∧ t ≠ st ∧ SqT K H t xs ∧ 0 < xs.length ∧ xs.length < 1073741824 ∧ ∀ v H', v ∈ xs → StAt H' st c → Kp st H H' → Q v H'
abbrev s_one : Stmt := top 27
theorem sc_one : FnScope ["_law_state", "_law_things"] ["_law_state", "_law_things"] (defScope s_one) := ⟨rfl, rfl, rfl, by decide +kernel, rfl, by decide +kernel, by decide +kernel⟩
theorem ok_one {fT : Addr} {fdT : FuncData} (F : Fun K "_law_one" "_law_one" s_one f fd) (T : Blt mg) (D_take : DefOk P w K mg base 2 "_law_take" fT fdT ["_law_state", "_law_many"] spTake) : FnOk P w K mg base CX0 3 f fd ["_law_state", "_law_things"] (spOne K) := by
  refine F.ok sc_one (fun vs H Q E h => ?_) (fun cdv A outer s H vs Q E hr h => ?_)
  · obtain ⟨st, c, t, xs, rfl, _⟩ := h
    rfl
  · obtain ⟨st, c, t, xs, rfl, S, hts, hq, l0, l1, k⟩ := h
    refine ⟨_, (pss_one (ps_ret (pe_ix ix_tup (pv 1) (pe_d D_take (hr.mono (by decide)) (pa_cons (pv 0) (pa_cons (pe_callB call_len_seq (by rfl) T.b_len PySem.boot_len (pa_cons (pv 1) pa_nil)) pa_nil))) (fun _ _ => rfl)))), ?_⟩
    refine ⟨_, rfl, _, rfl, _, rfl, _, _, rfl, .inr hq, st, c, _, rfl, S, by omega, by omega, fun d H' d0 d1 S' e => ?_⟩
    have hd : d.toNat < xs.length := by omega
    exact ⟨t, xs, d, _, rfl, rfl, e.seqT hts hq, at_of (Int.toNat_of_nonneg d0).symm (List.getElem?_eq_getElem hd), k _ _ (List.getElem_mem hd) S' e⟩
/-! ### the words -/
def sg (c : Nat) : Str := ⟨#[c]⟩
def two (c d : Nat) : Str := ⟨#[c, d]⟩
def row2 (c : Nat) : List Str := [103, 104, 105, 106, 107, 108, 109, 110, 111, 112].map (two c)
def w0 : List Str := ["a", "b", "k", "zz", "abcdefgh"]
def allW : List Str := w0 ++ [97, 98, 99, 100, 101, 102].flatMap row2
theorem two_eq (c d : Nat) : sg c ++ sg d = two c d := rfl
theorem len1 (c : Nat) : (sg c).length = 1 := rfl
def spAllW : Sp := fun vs H Q _ => vs = [] ∧ ∀ p H', H p = none → Same H H' → H' p = some (.lst (allW.map V.str)) → Q (.ref p) H'
abbrev s_all_words : Stmt := top 28
theorem sc_all_words : FnScope ["_law_found", "_law_x", "_law_y"] [] (defScope s_all_words) := ⟨rfl, rfl, rfl, by decide +kernel, rfl, by decide +kernel, by decide +kernel⟩
theorem sixL : ("abcdef" : Str).cps = #[97, 98, 99, 100, 101, 102] := by decide +kernel
theorem tenL : ("ghijklmnop" : Str).cps = #[103, 104, 105, 106, 107, 108, 109, 110, 111, 112] := by decide +kernel
theorem ok_all_words (F : Fun K "_law_all_words" "_law_all_words" s_all_words f fd) (T : Blt mg) : FnOk P w K mg base CX0 1 f fd [] spAllW := by
  refine F.ok sc_all_words (fun vs H Q E h => ?_) (fun cdv A outer s H vs Q E hr h => ?_)
  · obtain ⟨rfl, _⟩ := h
    rfl
  · obtain ⟨rfl, k⟩ := h
    refine ⟨_, (pss_cons (ps_set (i := 0) sc_all_words.nd rfl (by first | exact Or.inl rfl | exact Or.inr rfl) (pe_lst (pa_cons pe_str (pa_cons pe_str (pa_cons pe_str (pa_cons pe_str (pa_cons pe_str pa_nil)))))))
        (pss_cons (ps_for PassesOwn.never rfl (pi_str pe_str) (pg_name (i := 1) sc_all_words.nd rfl (by first | exact Or.inl rfl | exact Or.inr rfl)) (pss_one (ps_expr (pe_bm PySem.F.plainAttrs_list PySem.F.slot_list_extend PySem.F.type_list_extend mt_extend (pv 0) (pa_cons (pe_lc (own := [("_law_y", 2)]) (g := gName 2) (tt := tYes) rfl sc_all_words.nd (pi_str pe_str) (blkOk_by (own := [("_law_y", 2)]) (by kernel_rfl)) (fun _ _ _ _ _ => (pg_name (i := 2) sc_all_words.nd rfl (by first | exact Or.inl rfl | exact Or.inr rfl))) (fun _ _ _ _ _ => pts_nil) (fun _ _ _ _ _ => (pe_op op_add_str (pv 1) (pv 2)))) pa_nil)))))
        (pss_one (ps_ret (pv 0))))), ?_⟩
    refine ⟨by show 5 ≤ sizeLine; decide, fun p np => ?_⟩
    refine ⟨_, rfl, for_it walk_str (fun i σ' H' => ∃ u v : Option V, σ' = [some (.ref p), u, v] ∧ Same H H' ∧ H' p = some (.lst ((w0 ++ ([97, 98, 99, 100, 101, 102].take i).flatMap row2).map V.str))) ⟨none, none, rfl, Same.upd' np, upd_same⟩ (fun _ _ _ _ _ => True.intro) ?_ ?_⟩
    · rintro i x σ' H' H'' hi ⟨u, v, rfl, e, hp⟩ ⟨rfl, c, hc, rfl⟩
      rw [sixL] at hi hc
      refine ⟨_, rfl, .inl ⟨rfl, _, SqL.of hp⟩, ?_⟩
      refine ⟨_, rfl, fun D nD => lc_it walk_str (fun j H2 => Same H'' H2 ∧ H2 D = some (.lst ((([103, 104, 105, 106, 107, 108, 109, 110, 111, 112].take j).map (two c)).map V.str))) ⟨Same.upd' nD, upd_same⟩ (fun _ _ _ _ => True.intro) ?_ ?_⟩
      · rintro j y H2 H3 hj ⟨g1, g2⟩ ⟨rfl, d, hd, rfl⟩
        rw [tenL] at hj hd
        refine ⟨rfl, _, rfl, _, rfl, sg c, sg d, rfl, rfl, by rw [len1, len1]; decide, _, g2, small1000 (by simp; omega), ?_⟩
        refine ⟨Same.mut g1 nD, ?_⟩
        have hd' : [103, 104, 105, 106, 107, 108, 109, 110, 111, 112][j]? = some d := by simpa using hd
        rw [upd_same, List.take_succ, hd', two_eq]
        simp
      · rintro H2 ⟨g1, g2⟩
        rw [tenL] at g2
        have g2 : H2 D = some (.lst ((row2 c).map V.str)) := g2
        have hDp : D ≠ p := (ne_of_none hp nD).symm
        have hc' : [97, 98, 99, 100, 101, 102][i]? = some c := by simpa using hc
        refine ⟨_, _, _, _, rfl, rfl, g1 _ _ hp, g2, ?_, ?_⟩
        · show _ ≤ sizeLine
          refine Nat.le_of_lt (small1000 ?_)
          have hi' : i ≤ 6 := Nat.le_of_lt hi
          have : ∀ i ≤ 6, ((w0 ++ ([97, 98, 99, 100, 101, 102].take i).flatMap row2).map V.str).length ≤ 800 := by decide +kernel
          have h1 := this i hi'
          have h2 : ((row2 c).map V.str).length = 10 := by simp [row2]
          omega
        · refine ⟨_, _, rfl, Same.mut (e.trans g1) np, ?_⟩
          rw [upd_same, List.take_succ, hc']
          simp
    · rintro σ' H' ⟨u, v, rfl, e, hp⟩
      rw [sixL] at hp
      exact ⟨_, rfl, k p _ np e hp⟩
end
end Lm

namespace Lm
open PySem L2
def isW (x : Str) : Bool := decide (1 ≤ x.cps.size) && decide (x.cps.size ≤ 8) && x.cps.toList.all fun c => decide (97 ≤ c) && decide (c ≤ 122)
theorem allW_nodup : allW.Nodup := by decide +kernel
theorem allW_len : allW.length = 65 := by decide +kernel
theorem allW_word : ∀ x ∈ allW, isW x = true := by decide +kernel
/-- of the words so many, all unlike -/
structure Wds (ws : List Str) (n : Nat) : Prop where
  len : ws.length = n
  nd : ws.Nodup
  wd : ∀ x ∈ ws, isW x = true
theorem perm_erase {α : Type} : ∀ (l : List α) (i : Nat) (h : i < l.length), (l[i] :: l.eraseIdx i).Perm l
  | a :: r, 0, _ => .refl _
  | a :: r, i + 1, h => by
    have := perm_erase r i (by simpa using h)
    exact (List.Perm.swap _ _ _).trans (this.cons a)
theorem erase_map {α β : Type} (g : α → β) : ∀ (l : List α) (i : Nat), (l.map g).eraseIdx i = (l.eraseIdx i).map g
  | [], _ => rfl
  | _ :: _, 0 => rfl
  | a :: r, i + 1 => by
    show g a :: (r.map g).eraseIdx i = g a :: (r.eraseIdx i).map g
    rw [erase_map g r i]
theorem wds_of {F L : List Str} (h : (F ++ L).Perm allW) : Wds F F.length := by
  have nd := h.symm.nodup allW_nodup
  exact ⟨rfl, (List.nodup_append.mp nd).1, fun x hx => allW_word x (h.mem_iff.mp (List.mem_append_left _ hx))⟩
section
variable {P : Program} {w : World} {K : PySem.W.Frag} {mg : Str → Option Value} {base : Heap} {f : Addr} {fd : FuncData}
def spSomeW : Sp := fun vs H Q _ => ∃ (st c : Addr) (m : Nat), vs = [.ref st, .int m] ∧ StAt H st c ∧ m ≤ 60 ∧ ∀ p ws H', H p = none → Wds ws m → StAt H' st c → Kp st H H' → H' p = some (.lst (ws.map V.str)) → Q (.ref p) H'
abbrev s_some_words : Stmt := top 29
theorem sc_some_words : FnScope ["_law_state", "_law_many", "_law_left", "_law_found", "_law_k"] ["_law_state", "_law_many"] (defScope s_some_words) := ⟨rfl, rfl, rfl, by decide +kernel, rfl, by decide +kernel, by decide +kernel⟩
theorem ok_some_words {fT fW : Addr} {fdT fdW : FuncData} (F : Fun K "_law_some_words" "_law_some_words" s_some_words f fd) (T : Blt mg) (D_take : DefOk P w K mg base 2 "_law_take" fT fdT ["_law_state", "_law_many"] spTake)
    (D_all_words : DefOk P w K mg base 1 "_law_all_words" fW fdW [] spAllW) : FnOk P w K mg base CX0 3 f fd ["_law_state", "_law_many"] spSomeW := by
  refine F.ok sc_some_words (fun vs H Q E h => ?_) (fun cdv A outer s H vs Q E hr h => ?_)
  · obtain ⟨st, c, m, rfl, _⟩ := h
    rfl
  · obtain ⟨st, c, m, rfl, S, hm, k⟩ := h
    refine ⟨_, (pss_cons (ps_par (i := 2) (j := 3) (by rfl) sc_some_words.nd rfl rfl (by decide) rfl rfl (pa_cons (pe_d0 D_all_words (hr.mono (by decide))) (pa_cons (pe_lst pa_nil) pa_nil)) (by rfl))
        (pss_cons (ps_for PassesOwn.never rfl (pi_range1 rfl T.b_range (pa_cons (pv 1) pa_nil)) (pg_name (i := 4) sc_some_words.nd rfl (by first | exact Or.inl rfl | exact Or.inr rfl)) (pss_one (ps_expr (pe_bm PySem.F.plainAttrs_list PySem.F.slot_list_append PySem.F.type_list_append mt_append (pv 3) (pa_cons (pe_bm PySem.F.plainAttrs_list PySem.F.slot_list_pop PySem.F.type_list_pop mt_popAt (pv 2) (pa_cons (pe_d D_take (hr.mono (by decide)) (pa_cons (pv 0) (pa_cons (pe_callB call_len_seq (by rfl) T.b_len PySem.boot_len (pa_cons (pv 2) pa_nil)) pa_nil))) pa_nil)) pa_nil)))))
        (pss_one (ps_ret (pv 3))))), ?_⟩
    refine ⟨rfl, fun l H1 nl e1 hl => ⟨by show 0 ≤ sizeLine; decide, fun fo nfo => ⟨_, _, rfl, ?_⟩⟩⟩
    have nfo' := e1.free nfo
    have hlf : l ≠ fo := ne_of_none hl nfo
    refine ⟨_, rfl, _, rfl, by omega, by omega, for_range (n := ((m : Int) - 0).toNat) (fun i σ' H' => ∃ (u : Option V) (F L : List Str), σ' = [some (.ref st), some (.int m), some (.ref l), some (.ref fo), u] ∧ F.length = i ∧ (F ++ L).Perm allW ∧ StAt H' st c ∧ Kp st H H' ∧ H' l = some (.lst (L.map V.str)) ∧ H' fo = some (.lst (F.map V.str)))
      ⟨none, [], allW, rfl, rfl, .refl _, (S.same e1).same (Same.upd' nfo), Kp.of (e1.trans (Same.upd' nfo)), by rw [upd_ne hlf]; exact hl, upd_same⟩ ?_ ?_⟩
    · rintro i σ' H' hi ⟨u, F, L, rfl, hF, hp, S', e, gl, gf⟩
      have hi : i < m := by omega
      have hlen : F.length + L.length = 65 := by
        have := hp.length_eq
        rw [List.length_append, allW_len] at this
        exact this
      obtain ⟨hls, hlc⟩ : l ≠ st ∧ l ≠ c := S.of_new nl
      obtain ⟨hfs, hfc⟩ : fo ≠ st ∧ fo ≠ c := S.of_new nfo'
      refine ⟨_, rfl, .inl ⟨rfl, _, SqL.of gf⟩, ?_⟩
      refine ⟨_, rfl, .inl ⟨rfl, _, SqL.of gl⟩, _, rfl, _, rfl, _, _, rfl, .inl (SqL.of gl), st, c, _, rfl, S', by simp; omega, by simp; omega, fun d H2 d0 d1 S2 e2 => ?_⟩
      have gl2 := e2 _ _ hls gl
      have gf2 := e2 _ _ hfs gf
      have hd : d.toNat < L.length := by simp at d1; omega
      refine ⟨l, _, d, d.toNat, _, rfl, rfl, gl2, by omega, by omega, PySem.seqIndex_of d0 (by simpa using d1), (by rw [List.getElem?_map, List.getElem?_eq_getElem hd]; rfl), ?_⟩
      refine ⟨_, _, _, rfl, rfl, by rw [upd_ne hlf.symm]; exact gf2, small1000 (by simp; omega), ?_⟩
      refine ⟨_, F ++ [L[d.toNat]], L.eraseIdx d.toNat, rfl, by simp [hF], ?_, (S2.mut hls hlc).mut hfs hfc, Kp.mut (Kp.mut (e.trans e2) nl) nfo', ?_, ?_⟩
      · refine List.Perm.trans ?_ hp
        rw [List.append_assoc]
        exact (perm_erase L d.toNat hd).append_left F
      · rw [upd_ne hlf, upd_same, erase_map]
      · rw [upd_same]
        simp
    · rintro σ' H' ⟨u, F, L, rfl, hF, hp, S', e, gl, gf⟩
      have hF : F.length = m := by omega
      exact ⟨_, rfl, k fo F H' nfo' (hF ▸ wds_of hp) S' e gf⟩
def spKept : Sp := fun vs H Q _ => ∃ (st c : Addr) (m : Nat), vs = [.ref st, .int m] ∧ StAt H st c ∧ m ≤ 60 ∧ ∀ p (S : Nat → Bool) H', H p = none → StAt H' st c → Kp st H H' → H' p = some (.lst (((List.range m).filter S).map fun i : Nat => V.int i)) → Q (.ref p) H'
abbrev s_kept : Stmt := top 30
theorem sc_kept : FnScope ["_law_state", "_law_many", "_law_wide", "_law_side", "_law_k"] ["_law_state", "_law_many"] (defScope s_kept) := ⟨rfl, rfl, rfl, by decide +kernel, rfl, by decide +kernel, by decide +kernel⟩
theorem ok_kept {fT fO : Addr} {fdT fdO : FuncData} (F : Fun K "_law_kept" "_law_kept" s_kept f fd) (T : Blt mg) (D_take : DefOk P w K mg base 2 "_law_take" fT fdT ["_law_state", "_law_many"] spTake)
    (D_one : DefOk P w K mg base 3 "_law_one" fO fdO ["_law_state", "_law_things"] (spOne K)) : FnOk P w K mg base CX0 4 f fd ["_law_state", "_law_many"] spKept := by
  refine F.ok sc_kept (fun vs H Q E h => ?_) (fun cdv A outer s H vs Q E hr h => ?_)
  · obtain ⟨st, c, m, rfl, _⟩ := h
    rfl
  · obtain ⟨st, c, m, rfl, S, hm, k⟩ := h
    refine ⟨_, (pss_cons (ps_asg (pe_tup (pa_cons (pe_d D_one (hr.mono (by decide)) (pa_cons (pv 0) (pa_cons (pe_tup (pa_cons pe_int (pa_cons pe_int (pa_cons pe_int (pa_cons pe_int (pa_cons pe_int pa_nil)))))) pa_nil))) (pa_cons (pe_d D_take (hr.mono (by decide)) (pa_cons (pv 0) (pa_cons pe_int pa_nil))) pa_nil))) (pg_tup rfl (pgs_cons (pg_name (i := 2) sc_kept.nd rfl (by first | exact Or.inl rfl | exact Or.inr rfl)) (pgs_cons (pg_name (i := 3) sc_kept.nd rfl (by first | exact Or.inl rfl | exact Or.inr rfl)) pgs_nil))))
        (pss_one (ps_ret (pe_lc (own := [("_law_k", 4)]) (g := gName 4)  rfl sc_kept.nd (pi_range1 rfl T.b_range (pa_cons (pv 1) pa_nil)) (blkOk_by (own := [("_law_k", 4)]) (by kernel_rfl)) (fun _ _ _ _ _ => (pg_name (i := 4) sc_kept.nd rfl (by first | exact Or.inl rfl | exact Or.inr rfl))) (fun _ _ _ _ _ => (pts_one (pt_cmpR op_eq (pe_cmpR op_eq (pe_d D_take (hr.mono (by decide)) (pa_cons (pv 0) (pa_cons (pv 2) pa_nil))) pe_int (nomark _)) (pe_cmpR op_eq (pv 3) pe_int (nomark _)) (nomark _)))) (fun _ _ _ _ _ => (pv 4)))))), ?_⟩
    refine ⟨_, rfl, by show 5 ≤ sizeLine; decide, fun t nt => ?_⟩
    have hts := (S.of_new nt).1
    refine ⟨st, c, t, _, rfl, S.same (Same.upd' nt), hts, SqT.of upd_same, by show 0 < 5; decide, by show 5 < _; decide, fun v H1 hv S1 e1 => ?_⟩
    obtain ⟨wide, rfl, w0, w1⟩ : ∃ n : Int, v = .int n ∧ 0 < n ∧ n < 100 := by
      simp only [List.mem_cons, List.not_mem_nil, or_false] at hv
      rcases hv with rfl | rfl | rfl | rfl | rfl <;> exact ⟨_, rfl, by decide, by decide⟩
    refine ⟨_, rfl, st, c, 2, rfl, S1, by decide, by decide, fun side H2 s0 s1 S2 e2 => ?_⟩
    have e12 : Kp st H H2 := ((Kp.of (Same.upd' nt)).trans e1).trans e2
    refine ⟨by show 2 ≤ sizeLine; decide, fun t2 nt2 => ?_⟩
    refine ⟨t2, _, rfl, SqT.of upd_same, rfl, _, _, rfl, _, _, rfl, rfl, ?_⟩
    have S3 : StAt (upd H2 t2 (.tup [.int wide, .int side])) st c := S2.same (Same.upd' nt2)
    have e3 : Kp st H (upd H2 t2 (.tup [.int wide, .int side])) := e12.trans (Kp.of (Same.upd' nt2))
    refine ⟨_, rfl, _, rfl, by omega, by omega, fun D nD => ?_⟩
    have nDH : H D = none := e3.free (S3.of_new nD).1 nD
    refine lc_range (lo := 0) (n := (m : Int).toNat) (fun i H' => StAt H' st c ∧ Kp st H H' ∧ ∃ S : Nat → Bool, H' D = some (.lst (((List.range i).filter S).map fun i : Nat => V.int i))) ⟨S3.same (Same.upd' nD), Kp.mut e3 nDH, fun _ => false, upd_same⟩ ?_ ?_
    · rintro i H' hi ⟨S', e, B, hB⟩
      refine ⟨rfl, ?_⟩
      refine ⟨_, rfl, _, rfl, st, c, wide, rfl, S', w0, by omega, fun d H4 d0 d1 S4 e4 => ?_⟩
      refine ⟨rfl, _, rfl, rfl, rfl, _, rfl, ?_⟩
      have hDs := (S3.of_new nD).1
      have hDc := (S3.of_new nD).2
      have hB4 := e4 _ _ hDs hB
      have z : (0 : Int) + (i : Int) = (i : Int) := by omega
      refine ite2 (fun _ => ?_) (fun _ => ?_)
      · refine ⟨_, rfl, _, hB4, small1000 (by simp; exact Nat.le_trans (List.length_filter_le _ _) (by simp; omega)), S4.mut hDs hDc, Kp.mut (e.trans e4) nDH, fun j => if j = i then true else B j, ?_⟩
        rw [upd_same, List.range_succ, List.filter_append, List.map_append]
        have e5 : (List.range i).filter (fun j => if j = i then true else B j) = (List.range i).filter B := List.filter_congr fun j hj => by
          have : j ≠ i := by have := List.mem_range.mp hj; omega
          simp [this]
        rw [e5]
        simp
      · refine ⟨S4, e.trans e4, fun j => if j = i then false else B j, ?_⟩
        rw [hB4, List.range_succ, List.filter_append]
        have e5 : (List.range i).filter (fun j => if j = i then false else B j) = (List.range i).filter B := List.filter_congr fun j hj => by
          have : j ≠ i := by have := List.mem_range.mp hj; omega
          simp [this]
        rw [e5]
        simp
    · rintro H' ⟨S', e, B, hB⟩
      exact k D B H' nDH S' e (by simpa using hB)
end
end Lm

namespace Lm
open PySem L2
section
variable {P : Program} {w : World} {K : PySem.W.Frag} {mg : Str → Option Value} {base : Heap} {f : Addr} {fd : FuncData}
abbrev c_LETTERS : V := .str "abcdefghijklmnopqrstuvwxyz"
abbrev c_LONGEST_WORD : V := .int 8
/-- the module's constants -/
structure Cst (mg : Str → Option Value) (tL tW : Tok) : Prop where
  g_LETTERS : mg "LETTERS" = some (.str "abcdefghijklmnopqrstuvwxyz" tL)
  g_LONGEST_WORD : mg "LONGEST_WORD" = some (.int 8 tW)
def SeqAt (H : Hp) (a : Addr) (xs : List V) : Prop := H a = some (.lst xs) ∨ H a = some (.tup xs)
/-- is_number: of an int -/
def spIsNum : Sp := fun vs H Q _ => ∃ i : Int, vs = [.int i] ∧ Q (.bl true) H
abbrev s_is_number : Stmt := top 4
theorem sc_is_number : FnScope ["x"] ["x"] (defScope s_is_number) := ⟨rfl, rfl, rfl, by decide +kernel, rfl, by decide +kernel, by decide +kernel⟩
theorem ok_is_number (F : Fun K "is_number" "is_number" s_is_number f fd) (T : Blt mg) : FnOk P w K mg base CX0 1 f fd ["x"] spIsNum := by
  refine F.ok sc_is_number (fun vs H Q E h => ?_) (fun cdv A outer s H vs Q E hr h => ?_)
  · obtain ⟨i, rfl, _⟩ := h
    rfl
  · obtain ⟨i, rfl, k⟩ := h
    refine ⟨_, (pss_one (ps_ret (pe_and (pe_callB call_isi (by rfl) T.b_isinstance (by decide +kernel) (pa_cons (pv 0) (pa_cons (pe_bltn (v := .ty "int") (u := .type "int") (by rfl) T.b_int (by decide +kernel) rfl) pa_nil))) (pe_one (pe_not (pe_callB call_isi (by rfl) T.b_isinstance (by decide +kernel) (pa_cons (pv 0) (pa_cons (pe_bltn (v := .ty "bool") (u := .type "bool") (by rfl) T.b_bool (by decide +kernel) rfl) pa_nil)))))))), ?_⟩
    refine ⟨_, rfl, _, _, _, _, true, rfl, .ty _, .base (.int i), kit_ty (by decide +kernel), true, rfl, iteT ?_⟩
    exact ⟨_, rfl, _, _, _, _, false, rfl, .ty _, .base (.int i), kit_ty (by decide +kernel), false, rfl, k⟩
def spUpTo : Sp := fun vs H Q _ => ∃ i n : Int, vs = [.int i, .int n] ∧ Q (.bl (decide (0 ≤ i ∧ i ≤ n))) H
abbrev s_is_up_to : Stmt := top 5
theorem sc_is_up_to : FnScope ["x", "most"] ["x", "most"] (defScope s_is_up_to) := ⟨rfl, rfl, rfl, by decide +kernel, rfl, by decide +kernel, by decide +kernel⟩
theorem ok_is_up_to {fN : Addr} {fdN : FuncData} (F : Fun K "is_up_to" "is_up_to" s_is_up_to f fd) (T : Blt mg) (D_is_number : DefOk P w K mg base 1 "is_number" fN fdN ["x"] spIsNum) : FnOk P w K mg base CX0 2 f fd ["x", "most"] spUpTo := by
  refine F.ok sc_is_up_to (fun vs H Q E h => ?_) (fun cdv A outer s H vs Q E hr h => ?_)
  · obtain ⟨i, n, rfl, _⟩ := h
    rfl
  · obtain ⟨i, n, rfl, k⟩ := h
    refine ⟨_, (pss_one (ps_ret (pe_and (pe_d D_is_number (hr.mono (by decide)) (pa_cons (pv 0) pa_nil)) (pe_one (pe_chain op_le op_le pe_int (pv 0) (pv 1)))))), ?_⟩
    refine ⟨_, rfl, i, rfl, true, rfl, iteT ?_⟩
    refine ⟨_, rfl, _, _, rfl, rfl, _, rfl, ite2 (fun h0 => ?_) (fun h0 => ?_)⟩
    · have h0 := of_decide_eq_true h0
      refine ⟨_, rfl, _, _, rfl, rfl, ?_⟩
      have e : decide (i ≤ n) = decide (0 ≤ i ∧ i ≤ n) := by simp [h0]
      have q : Q (.bl (decide (i ≤ n))) H := by rw [e]; exact k
      exact q
    · have h0 : ¬ (0 ≤ i) := fun z => h0 (decide_eq_true z)
      have e : decide (0 ≤ i ∧ i ≤ n) = false := by simp [h0]
      rw [e] at k; exact k
def spIsRow : Sp := fun vs H Q _ => ∃ a xs, vs = [.ref a] ∧ SeqAt H a xs ∧ ∀ H', Same H H' → Q (.bl true) H'
abbrev s_is_row : Stmt := top 6
theorem sc_is_row : FnScope ["x"] ["x"] (defScope s_is_row) := ⟨rfl, rfl, rfl, by decide +kernel, rfl, by decide +kernel, by decide +kernel⟩
theorem ok_is_row (F : Fun K "is_row" "is_row" s_is_row f fd) (T : Blt mg) : FnOk P w K mg base CX0 1 f fd ["x"] spIsRow := by
  refine F.ok sc_is_row (fun vs H Q E h => ?_) (fun cdv A outer s H vs Q E hr h => ?_)
  · obtain ⟨a, xs, rfl, _⟩ := h
    rfl
  · obtain ⟨a, xs, rfl, hq, k⟩ := h
    refine ⟨_, (pss_one (ps_ret (pe_callB call_isiT (by rfl) T.b_isinstance (by decide +kernel) (pa_cons (pv 0) (pa_cons (pe_tup (pa_cons (pe_bltn (v := .ty "list") (u := .type "list") (by rfl) T.b_list (by decide +kernel) rfl) (pa_cons (pe_bltn (v := .ty "tuple") (u := .type "tuple") (by rfl) T.b_tuple (by decide +kernel) rfl) pa_nil))) pa_nil))))), ?_⟩
    refine ⟨_, rfl, by show 2 ≤ sizeLine; decide, fun p np => ?_⟩
    rcases hq with hq | hq
    · exact ⟨_, _, _, _, _, true, rfl, upd_same, .cons (.ty _) (.cons (.ty _) .nil), .base (.lst (by rw [upd_ne (ne_of_none hq np)]; exact hq)), kitAny_cons (b := true) (kit_ty (by decide +kernel)) (fun z => nomatch z) (fun _ => rfl), k _ (Same.upd' np)⟩
    · exact ⟨_, _, _, _, _, true, rfl, upd_same, .cons (.ty _) (.cons (.ty _) .nil), .base (.tup (by rw [upd_ne (ne_of_none hq np)]; exact hq)), kitAny_cons (b := false) (kit_ty (by decide +kernel)) (fun _ => kitAny_cons (b := true) (kit_ty (by decide +kernel)) (fun z => nomatch z) (fun _ => rfl)) (fun z => nomatch z), k _ (Same.upd' np)⟩
theorem isW_sign (c : Nat) : decide (c ∈ ("abcdefghijklmnopqrstuvwxyz" : Str).cps.toList) = (decide (97 ≤ c) && decide (c ≤ 122)) := by
  have e : ("abcdefghijklmnopqrstuvwxyz" : Str).cps.toList = List.range' 97 26 := by decide +kernel
  rw [e]
  simp only [List.mem_range'_1]
  by_cases h1 : 97 ≤ c <;> by_cases h2 : c ≤ 122 <;> simp [h1, h2] <;> omega
def spIsWord : Sp := fun vs H Q _ => ∃ x : Str, vs = [.str x] ∧ x.cps.size ≤ 1000 ∧ ∀ H', Same H H' → Q (.bl (isW x)) H'
abbrev s_is_word : Stmt := top 7
theorem sc_is_word : FnScope ["x", "sign"] ["x"] (defScope s_is_word) := ⟨rfl, rfl, rfl, by decide +kernel, rfl, by decide +kernel, by decide +kernel⟩
theorem ok_is_word (F : Fun K "is_word" "is_word" s_is_word f fd) (T : Blt mg) {tL tW : Tok} (T' : Cst mg tL tW) : FnOk P w K mg base CX0 1 f fd ["x"] spIsWord := by
  refine F.ok sc_is_word (fun vs H Q E h => ?_) (fun cdv A outer s H vs Q E hr h => ?_)
  · obtain ⟨x, rfl, _⟩ := h
    rfl
  · obtain ⟨x, rfl, hx, k⟩ := h
    refine ⟨_, (pss_cons (ps_if (pt_not (pt_val (pe_callB call_isi (by rfl) T.b_isinstance (by decide +kernel) (pa_cons (pv 0) (pa_cons (pe_bltn (v := .ty "str") (u := .type "str") (by rfl) T.b_str (by decide +kernel) rfl) pa_nil))))) (pss_one (ps_ret pe_bl)) pss_nil)
        (pss_one (ps_ret (pe_and (pe_chain op_le op_le pe_int (pe_callB call_len_str (by rfl) T.b_len PySem.boot_len (pa_cons (pv 0) pa_nil)) (pe_glob (v := c_LONGEST_WORD) rfl T'.g_LONGEST_WORD ⟨_, rfl⟩)) (pe_one (pe_callB (cr_all rfl) (by rfl) T.b_all (by decide +kernel) (by exact (pa_cons (pe_lc (own := [("sign", 1)]) (g := gName 1) (tt := tYes)/- R cmp -/ rfl sc_is_word.nd (pi_str (pv 0)) (blkOk_by (own := [("sign", 1)]) (by kernel_rfl)) (fun _ _ _ _ _ => (pg_name (i := 1) sc_is_word.nd rfl (by first | exact Or.inl rfl | exact Or.inr rfl))) (fun _ _ _ _ _ => pts_nil) (fun _ _ _ _ _ => by exact (pe_cmpR op_in_sign (pv 1) (pe_glob (v := c_LETTERS) rfl T'.g_LETTERS ⟨_, rfl⟩) rfl))) pa_nil)))))))), ?_⟩
    refine ⟨_, rfl, _, _, _, _, true, rfl, .ty _, .base (.str x), kit_ty (by decide +kernel), true, rfl, ?_⟩
    have hx' : x.length ≤ sizeLine := Nat.le_of_lt (small1000 hx)
    have hl : x.length = x.cps.size := rfl
    refine ⟨_, rfl, _, rfl, hx', _, _, rfl, rfl, _, rfl, ite2 (fun h0 => ?_) (fun h0 => ?_)⟩
    · have h0 : 1 ≤ x.cps.size := by have := of_decide_eq_true h0; omega
      refine ⟨_, _, rfl, rfl, _, rfl, ite2 (fun h1 => ?_) (fun h1 => ?_)⟩
      · have h1 : x.cps.size ≤ 8 := by have := of_decide_eq_true h1; omega
        refine ⟨_, rfl, x, rfl, fun D nD => lc_it walk_str (fun j H' => Same H H' ∧ H' D = some (.lst (((x.cps.toList.take j).map fun c => decide (97 ≤ c) && decide (c ≤ 122)).map V.bl))) ⟨Same.upd' nD, upd_same⟩ (fun _ _ _ _ => True.intro) ?_ ?_⟩
        · rintro j y H' H'' hj ⟨e, hD⟩ ⟨rfl, c, hc, rfl⟩
          refine ⟨rfl, _, rfl, _, _, rfl, rfl, _, hD, small1000 (by simp; omega), Same.mut e nD, ?_⟩
          have hc' : x.cps.toList[j]? = some c := by simpa using hc
          rw [upd_same, List.take_succ, hc', isW_sign]
          simp
        · rintro H' ⟨e, hD⟩
          refine ⟨_, _, rfl, SqL.of hD, ?_⟩
          have e2 : (((x.cps.toList.take x.cps.size).map fun c => decide (97 ≤ c) && decide (c ≤ 122)).all id) = isW x := by
            unfold isW
            rw [show x.cps.size = x.cps.toList.length from by simp, List.take_length]
            simp [h0, h1]
          have q := k H' e
          rw [← e2] at q
          exact q
      · have h1 : ¬ x.cps.size ≤ 8 := fun z => h1 (decide_eq_true (by show (x.length : Int) ≤ 8; omega))
        have e2 : isW x = false := by unfold isW; simp [h1]
        have q := k H (Same.refl H)
        rw [e2] at q
        exact q
    · have h0 : ¬ 1 ≤ x.cps.size := fun z => h0 (decide_eq_true (by show (1 : Int) ≤ x.length; omega))
      have e2 : isW x = false := by unfold isW; simp [h0]
      have q := k H (Same.refl H)
      rw [e2] at q
      exact ⟨false, rfl, q⟩
end
end Lm

namespace Lm
open PySem L2
/-! ### a work as it stands in the heap -/
theorem n_nw : ¬ (("name" : Str) = "words") := by decide +kernel
theorem n_ne : ¬ (("name" : Str) = "ends") := by decide +kernel
theorem n_we : ¬ (("words" : Str) = "ends") := by decide +kernel
def wkF (nm : Str) (t d : Addr) : List (Str × V) := [("name", .str nm), ("words", .ref t), ("ends", .ref d)]
theorem wk_name (nm : Str) (t d : Addr) : (wkF nm t d).lookup ("name" : Str) = some (.str nm) := by simp [wkF, List.lookup]
theorem wk_words (nm : Str) (t d : Addr) : (wkF nm t d).lookup ("words" : Str) = some (.ref t) := by
  have e : (("words" : Str) == "name") = false := by decide +kernel
  simp [wkF, List.lookup, e]
theorem wk_ends (nm : Str) (t d : Addr) : (wkF nm t d).lookup ("ends" : Str) = some (.ref d) := by
  have e : (("ends" : Str) == "name") = false := by decide +kernel
  have e2 : (("ends" : Str) == "words") = false := by decide +kernel
  simp [wkF, List.lookup, e, e2]
theorem wk_no (nm : Str) (t d : Addr) {m : Str} (h1 : (m == "name") = false) (h2 : (m == "words") = false) (h3 : (m == "ends") = false) : (wkF nm t d).lookup m = none := by simp [wkF, List.lookup, h1, h2, h3]
theorem wk_put (nm : Str) (t d : Addr) : putF "ends" (.ref d) (putF "words" (.ref t) (putF "name" (.str nm) [])) = wkF nm t d := by
  simp [putF, wkF, n_nw, n_ne, n_we]
theorem wk_l1 (nm : Str) : (putF "name" (.str nm) []).length < 1000 := by simp [putF]
theorem wk_l2 (nm : Str) (t : Addr) : (putF "words" (.ref t) (putF "name" (.str nm) [])).length < 1000 := by simp [putF, n_nw]
/-- the cuts behind the words -/
def endsL : Nat → List Str → List (Key × V)
  | _, [] => []
  | n, x :: r => (Sum.inr x, V.int ((n : Int) + 1)) :: endsL (n + 1) r
theorem endsL_len : ∀ n ws, (endsL n ws).length = ws.length
  | _, [] => rfl
  | n, x :: r => by show (endsL (n + 1) r).length + 1 = r.length + 1; rw [endsL_len]
theorem endsL_app : ∀ n ws x, endsL n (ws ++ [x]) = endsL n ws ++ [(Sum.inr x, V.int ((n : Int) + (ws.length : Int) + 1))]
  | n, [], x => by simp [endsL]
  | n, y :: r, x => by
    show _ :: endsL (n + 1) (r ++ [x]) = _ :: (endsL (n + 1) r ++ _)
    rw [endsL_app (n + 1) r x]
    congr 4
    simp only [List.length_cons]
    congr 1
    omega
theorem endsL_no : ∀ n ws (x : Str), x ∉ ws → valV (endsL n ws) (Sum.inr x : Key) = none
  | _, [], _, _ => rfl
  | n, y :: r, x, h => by
    have h1 : ¬ ((Sum.inr y : Key) = Sum.inr x) := fun e => h (by rw [← Sum.inr.inj e]; exact List.mem_cons_self)
    unfold endsL
    rw [valV_neg h1]
    exact endsL_no (n + 1) r x fun z => h (List.mem_cons_of_mem _ z)
theorem endsL_at : ∀ n ws (i : Nat) (x : Str), ws.Nodup → ws[i]? = some x → valV (endsL n ws) (Sum.inr x : Key) = some (V.int ((n : Int) + (i : Int) + 1))
  | _, [], i, _, _, h => by simp at h
  | n, y :: r, 0, x, _, h => by
    have e : y = x := Option.some.inj h
    subst e
    unfold endsL
    rw [valV_pos rfl]
    simp
  | n, y :: r, i + 1, x, nd, h => by
    have hx : r[i]? = some x := h
    have ne : ¬ ((Sum.inr y : Key) = Sum.inr x) := fun e => (List.nodup_cons.mp nd).1 (by rw [Sum.inr.inj e]; exact List.mem_of_getElem? hx)
    unfold endsL
    rw [valV_neg ne, endsL_at (n + 1) r i x (List.nodup_cons.mp nd).2 hx]
    congr 2
    omega
/-- the work of the name nm and the words ws, at a -/
structure WkAt (C : Addr) (H : Hp) (a : Addr) (nm : Str) (ws : List Str) : Prop where
  ob : ∃ dx t d, H a = some (.ins C dx (wkF nm t d)) ∧ H t = some (.tup (ws.map V.str)) ∧ H d = some (.dK (endsL 0 ws))
theorem WkAt.same {C : Addr} {H H' : Hp} {a : Addr} {nm : Str} {ws : List Str} (k : WkAt C H a nm ws) (e : Same H H') : WkAt C H' a nm ws := by
  obtain ⟨⟨dx, t, d, h1, h2, h3⟩⟩ := k
  exact ⟨⟨dx, t, d, e _ _ h1, e _ _ h2, e _ _ h3⟩⟩
/-- what stands at st changes, a list -/
theorem WkAt.kp {C st : Addr} {H H' : Hp} {a : Addr} {nm : Str} {ws : List Str} {xs : List V} (k : WkAt C H a nm ws) (e : Kp st H H') (hs : H st = some (.lst xs)) : WkAt C H' a nm ws := by
  obtain ⟨⟨dx, t, d, h1, h2, h3⟩⟩ := k
  exact ⟨⟨dx, t, d, e _ _ (ne_of h1 hs (by intro z; cases z)) h1, e _ _ (ne_of h2 hs (by intro z; cases z)) h2, e _ _ (ne_of h3 hs (by intro z; cases z)) h3⟩⟩
/-- for i, x in enumerate(a), a list or a tuple that stands still -/
theorem for_enumA {K : PySem.W.Frag} {a : Addr} {xs : List V} {g : TG} {tb : TS} {D : Ends} {σ : St} {H : Hp} (hq : SeqAt H a xs) (Pv : Nat → St → Hp → Prop) (h0 : Pv 0 σ H) (hG : ∀ i σ' H', i ≤ xs.length → Pv i σ' H' → ∀ o, H a = some o → H' a = some o)
    (hs : ∀ i x σ H H', i < xs.length → Pv i σ H → YPair (fun i => some (.int (i : Nat))) (fun i => xs[i]?) i H x H' → g x σ H' fun σ2 H2 => tb { D with nx := Pv (i + 1), ct := Pv (i + 1), bk := D.nx } σ2 H2) (hd : ∀ σ H, Pv xs.length σ H → D.nx σ H) :
    ∃ a' xs', [V.ref a] = [V.ref a'] ∧ ((SqL K H a' xs' ∧ ∃ W : Nat → Nat → St → Hp → Prop, (∃ m, W 0 m σ H) ∧ ∀ i m σ H, W i m σ H →
      ((Ite K a').stop i H ∧ D.nx σ H) ∨ ((Ite K a').go i H ∧ ∃ N : St → Hp → Prop, (∀ σ' H', N σ' H' → ∃ m', m' < m ∧ W (i + 1) m' σ' H') ∧ ∀ x H', (Ite K a').yld i H x H' → g x σ H' fun σ2 H2 => tb { D with nx := N, ct := N, bk := D.nx } σ2 H2)) ∨
      (SqT K H a' xs' ∧ ∃ W : Nat → Nat → St → Hp → Prop, (∃ m, W 0 m σ H) ∧ ∀ i m σ H, W i m σ H →
      ((IteT K a').stop i H ∧ D.nx σ H) ∨ ((IteT K a').go i H ∧ ∃ N : St → Hp → Prop, (∀ σ' H', N σ' H' → ∃ m', m' < m ∧ W (i + 1) m' σ' H') ∧ ∀ x H', (IteT K a').yld i H x H' → g x σ H' fun σ2 H2 => tb { D with nx := N, ct := N, bk := D.nx } σ2 H2))) := by
  rcases hq with hq | hq
  · exact ⟨a, xs, rfl, .inl ⟨SqL.of hq, for_it walk_enum Pv h0 (fun i σ' H' hi p => SqL.of (hG i σ' H' hi p _ hq)) hs hd⟩⟩
  · exact ⟨a, xs, rfl, .inr ⟨SqT.of hq, for_it walk_enumT Pv h0 (fun i σ' H' hi p => SqT.of (hG i σ' H' hi p _ hq)) hs hd⟩⟩
section
variable {P : Program} {w : World} {K : PySem.W.Frag} {mg : Str → Option Value} {base : Heap} {f : Addr} {fd : FuncData}
/-- what the walk asks of the class Work -/
structure WkTxt (K : PySem.W.Frag) (C : Addr) : Prop where
  cl : Cls K C
  nN : NoAttr K C "name"
  nW : NoAttr K C "words"
  nE : NoAttr K C "ends"
def spWkInit (C : Addr) : Sp := fun vs H Q _ => ∃ (p dx a : Addr) (nm : Str) (ws : List Str), vs = [.ref p, .str nm, .ref a] ∧ H p = some (.ins C dx []) ∧ SeqAt H a (ws.map V.str) ∧ isW nm = true ∧ Wds ws ws.length ∧ 0 < ws.length ∧ ws.length ≤ 60 ∧
  ∀ H', WkAt C H' p nm ws → Kp p H H' → Q .non H'
abbrev s_Work_init : Stmt := inClass (top 16) 0
theorem sc_Work_init : FnScope ["self", "name", "passages", "ends", "index", "word"] ["self", "name", "passages"] (defScope s_Work_init) := ⟨rfl, rfl, rfl, by decide +kernel, rfl, by decide +kernel, by decide +kernel⟩
theorem isW_size {x : Str} (h : isW x = true) : x.cps.size ≤ 1000 := by
  unfold isW at h
  simp at h
  omega
theorem ok_wk_init {C fI fR : Addr} {fdI fdR : FuncData} (F : Fun K "__init__" "Work.__init__" s_Work_init f fd) (T : Blt mg) (W : WkTxt K C) (D_is_word : DefOk P w K mg base 1 "is_word" fI fdI ["x"] spIsWord) (D_is_row : DefOk P w K mg base 1 "is_row" fR fdR ["x"] spIsRow) :
    FnOk P w K mg base CX0 2 f fd ["self", "name", "passages"] (spWkInit C) := by
  refine F.ok sc_Work_init (fun vs H Q E h => ?_) (fun cdv A outer s H vs Q E hr h => ?_)
  · obtain ⟨p, dx, a, nm, ws, rfl, _⟩ := h
    rfl
  · obtain ⟨p, dx, a, nm, ws, rfl, hp, hq, hnm, hw, l0, l1, k⟩ := h
    have hu := hu_of hr
    have hap : a ≠ p := by
      rcases hq with hq | hq
      · exact ne_of hq hp (by intro z; cases z)
      · exact ne_of hq hp (by intro z; cases z)
    refine ⟨_, (pss_cons (ps_if (pt_not (pt_val (pe_d D_is_word (hr.mono (by decide)) (pa_cons (pv 1) pa_nil)))) (pss_one ps_never) pss_nil)
        (pss_cons (ps_if (PW.pt (pw_or (pt_not (pt_val (pe_d D_is_row (hr.mono (by decide)) (pa_cons (pv 2) pa_nil)))) (pw_or1 (pt_cmpR op_eq (pe_callB call_len_seq (by rfl) T.b_len PySem.boot_len (pa_cons (pv 2) pa_nil)) pe_int (nomark _))))) (pss_one ps_never) pss_nil)
        (pss_cons (ps_set (i := 3) sc_Work_init.nd rfl (by first | exact Or.inl rfl | exact Or.inr rfl) pe_dnewK)
        (pss_cons (ps_for PassesOwn.never rfl (pi_enumA rfl T.b_enumerate (pa_cons (pv 2) pa_nil)) (pg_tup rfl (pgs_cons (pg_name (i := 4) sc_Work_init.nd rfl (by first | exact Or.inl rfl | exact Or.inr rfl)) (pgs_cons (pg_name (i := 5) sc_Work_init.nd rfl (by first | exact Or.inl rfl | exact Or.inr rfl)) pgs_nil))) (pss_cons (ps_if (PW.pt (pw_or (pt_not (pt_val (pe_d D_is_word (hr.mono (by decide)) (pa_cons (pv 5) pa_nil)))) (pw_or1 (pt_cmp (pc_din hu (pv 5) (pv 3)))))) (pss_one ps_never) pss_nil)
        (pss_one (ps_dput hu (pv 3) (pv 5) (pe_op op_add (pv 4) pe_int) rfl))))
        (pss_cons (ps_fld (pv 0) (pv 1) rfl)
        (pss_cons (ps_fld (pv 0) (pe_callTy call_tuple_of (by rfl) T.b_tuple (by decide +kernel) (pa_cons (pv 2) pa_nil)) rfl)
        (pss_one (ps_fld (pv 0) (pv 3) rfl)))))))), ?_⟩
    refine ⟨_, rfl, nm, rfl, isW_size hnm, fun H1 e1 => ⟨_, rfl, ?_⟩⟩
    rw [hnm]
    have hq1 : SeqAt H1 a (ws.map V.str) := hq.elim (fun h => .inl (e1 _ _ h)) fun h => .inr (e1 _ _ h)
    refine ⟨_, rfl, a, _, rfl, hq1, fun H2 e2 => ⟨_, rfl, ?_⟩⟩
    have hq2 : SeqAt H2 a (ws.map V.str) := hq1.elim (fun h => .inl (e2 _ _ h)) fun h => .inr (e2 _ _ h)
    have hl : ¬ (V.int ((ws.map V.str).length : Int) = V.int 0) := by
      intro z
      have : ((ws.map V.str).length : Int) = 0 := V.int.inj z
      rw [List.length_map] at this
      omega
    refine ⟨_, rfl, _, _, rfl, (hq2.elim (fun h => .inl (SqL.of h)) fun h => .inr (SqT.of h)), rfl, _, rfl, ?_⟩
    rw [decide_eq_false hl]
    intro d nd
    have hq3 : SeqAt (upd H2 d (.dK [])) a (ws.map V.str) := hq2.elim (fun h => .inl (Same.upd' nd _ _ h)) fun h => .inr (Same.upd' nd _ _ h)
    have eH : Same H (upd H2 d (.dK [])) := (e1.trans e2).trans (Same.upd' nd)
    have ndH : H d = none := (e1.trans e2).free nd
    have hdp : d ≠ p := (ne_of_none hp ndH).symm
    refine ⟨_, rfl, for_enumA hq3 (fun i σ' H' => ∃ u v : Option V, σ' = [some (.ref p), some (.str nm), some (.ref a), some (.ref d), u, v] ∧ H' d = some (.dK (endsL 0 (ws.take i))) ∧ ∀ b o, H b = some o → H' b = some o)
      ⟨none, none, rfl, upd_same, eH⟩ ?_ ?_ ?_⟩
    · rintro i σ' H' _ ⟨u, v, rfl, gd, e⟩ o ho
      rcases hq with hq | hq
      · rw [eH _ _ hq] at ho
        rw [← ho]; exact e _ _ hq
      · rw [eH _ _ hq] at ho
        rw [← ho]; exact e _ _ hq
    · rintro i y σ' H' H'' hi ⟨u, v, rfl, gd, e⟩ ⟨T', x1, x2, rfl, nT, rfl, hx1, hx2⟩
      cases (Option.some.inj hx1)
      have hx2 : (List.map V.str ws)[i]? = some x2 := hx2
      rw [List.getElem?_map] at hx2
      obtain ⟨x, hx, rfl⟩ : ∃ x, ws[i]? = some x ∧ V.str x = x2 := by
        cases q : ws[i]? with
        | none => rw [q] at hx2; cases hx2
        | some x => rw [q] at hx2; exact ⟨x, rfl, Option.some.inj hx2⟩
      have hTd : T' ≠ d := (ne_of_none gd nT).symm
      have gd2 : (upd H' T' (.tup [.int (i : Nat), .str x])) d = some (.dK (endsL 0 (ws.take i))) := by rw [upd_ne hTd.symm]; exact gd
      have hwx : isW x = true := hw.wd x (List.mem_of_getElem? hx)
      have hno : x ∉ ws.take i := fun z => by
        obtain ⟨j, hj, e⟩ := List.mem_iff_getElem.mp z
        rw [List.getElem_take] at e
        have hj' : j < i := by rw [List.length_take] at hj; omega
        have := nd_ix hw.nd (i := j) (j := i) (x := x) (by rw [List.getElem?_eq_getElem (by rw [List.length_take] at hj; omega), e]) hx
        omega
      refine ⟨T', _, rfl, SqT.of upd_same, rfl, _, _, rfl, _, _, rfl, rfl, ?_⟩
      refine ⟨_, rfl, x, rfl, isW_size hwx, fun H3 e3 => ⟨_, rfl, ?_⟩⟩
      rw [hwx]
      have gd3 := e3 _ _ gd2
      refine ⟨_, rfl, _, rfl, d, _, rfl, DGet.k (k := Sum.inr x) gd3, ?_⟩
      rw [endsL_no 0 _ x hno]
      refine ⟨_, rfl, ?_⟩
      refine ⟨_, rfl, _, _, rfl, rfl, _, rfl, _, rfl, d, _, rfl, DPut.k (k := Sum.inr x) gd3 (small1000 (by rw [endsL_len, List.length_take]; omega)), ?_⟩
      refine ⟨_, _, rfl, ?_, ?_⟩
      · rw [upd_same, putK_new _ (endsL_no 0 _ x hno), List.take_succ, hx, Option.toList_some, endsL_app]
        rw [List.length_take, Nat.min_eq_left (by have := (List.getElem?_eq_some_iff.mp hx).1; omega)]
        simp
      · intro b o hb
        have hbd : b ≠ d := ne_of_none hb ndH
        rw [upd_ne hbd]
        exact e3 _ _ (Same.upd' nT _ _ (e _ _ hb))
    · rintro σ' H' ⟨u, v, rfl, gd, e⟩
      rw [List.length_map, List.take_length] at gd
      have hpd : p ≠ d := hdp.symm
      -- behind the words, which lie at t
      have fin : ∀ (t : Addr) (H3 : Hp), H3 p = some (.ins C dx (putF "name" (.str nm) [])) → H3 t = some (.tup (ws.map V.str)) → H3 d = some (.dK (endsL 0 ws)) → Kp p H H3 → t ≠ p → Q .non
          (upd (upd H3 p (.ins C dx (putF "words" (.ref t) (putF "name" (.str nm) [])))) p (.ins C dx (putF "ends" (.ref d) (putF "words" (.ref t) (putF "name" (.str nm) []))))) := by
        intro t H3 g1 g2 g3 g4 htp
        refine k _ ⟨⟨dx, t, d, by rw [upd_same, wk_put], by rw [upd_ne htp, upd_ne htp]; exact g2, by rw [upd_ne hdp, upd_ne hdp]; exact g3⟩⟩ ((g4.trans (Kp.upd _ _ _)).trans (Kp.upd _ _ _))
      refine ⟨_, rfl, _, rfl, p, C, dx, _, rfl, e _ _ hp, W.cl, W.nN, by decide, ?_⟩
      have kp3 : Kp p H (upd H' p (.ins C dx (putF "name" (.str nm) []))) := (Kp.of e).trans (Kp.upd _ _ _)
      rcases hq with hq | hq
      · refine ⟨_, rfl, a, _, rfl, .inl ⟨SqL.of (kp3 _ _ hap hq), fun t nt => ?_⟩⟩
        have htp : t ≠ p := (ne_of_none upd_same nt).symm
        have htd : t ≠ d := (ne_of_none (by rw [upd_ne hdp]; exact gd) nt).symm
        have g1 : (upd (upd H' p (.ins C dx (putF "name" (.str nm) []))) t (.tup (ws.map V.str))) p = some (.ins C dx (putF "name" (.str nm) [])) := by rw [upd_ne htp.symm, upd_same]
        refine ⟨_, rfl, p, C, dx, _, rfl, g1, W.cl, W.nW, wk_l1 _, ?_⟩
        refine ⟨_, rfl, _, rfl, p, C, dx, _, rfl, upd_same, W.cl, W.nE, wk_l2 _ _, ?_⟩
        exact fin t _ g1 upd_same (by rw [upd_ne htd.symm, upd_ne hdp]; exact gd) (kp3.trans (Kp.of (Same.upd' nt))) htp
      · refine ⟨_, rfl, a, _, rfl, .inr ⟨SqT.of (kp3 _ _ hap hq), ?_⟩⟩
        refine ⟨_, rfl, p, C, dx, _, rfl, upd_same, W.cl, W.nW, wk_l1 _, ?_⟩
        refine ⟨_, rfl, _, rfl, p, C, dx, _, rfl, upd_same, W.cl, W.nE, wk_l2 _ _, ?_⟩
        exact fin a _ upd_same (kp3 _ _ hap hq) (by rw [upd_ne hdp]; exact gd) kp3 hap
end
end Lm

namespace Lm
open PySem L2
theorem valV_mem {ws : List Str} (nd : ws.Nodup) (x : Str) : (valV (endsL 0 ws) (Sum.inr x : Key)).isSome = decide (x ∈ ws) := by
  by_cases h : x ∈ ws
  · obtain ⟨i, hi, e⟩ := List.mem_iff_getElem.mp h
    rw [endsL_at 0 ws i x nd (by rw [List.getElem?_eq_getElem hi, e]), decide_eq_true h]
    rfl
  · rw [endsL_no 0 ws x h, decide_eq_false h]
    rfl
section
variable {P : Program} {w : World} {K : PySem.W.Frag} {mg : Str → Option Value} {base : Heap} {f : Addr} {fd : FuncData}
def spWkLen (C : Addr) : Sp := fun vs H Q _ => ∃ (a : Addr) (nm : Str) (ws : List Str), vs = [.ref a] ∧ WkAt C H a nm ws ∧ Q (.int ws.length) H
abbrev s_Work_len : Stmt := inClass (top 16) 4
theorem sc_Work_len : FnScope ["self"] ["self"] (defScope s_Work_len) := ⟨rfl, rfl, rfl, by decide +kernel, rfl, by decide +kernel, by decide +kernel⟩
theorem ok_wk_len {C : Addr} (F : Fun K "__len__" "Work.__len__" s_Work_len f fd) (T : Blt mg) (W : WkTxt K C) : FnOk P w K mg base CX0 1 f fd ["self"] (spWkLen C) := by
  refine F.ok sc_Work_len (fun vs H Q E h => ?_) (fun cdv A outer s H vs Q E hr h => ?_)
  · obtain ⟨a, nm, ws, rfl, _⟩ := h
    rfl
  · obtain ⟨a, nm, ws, rfl, ⟨dx, t, d, h1, h2, h3⟩, k⟩ := h
    refine ⟨_, (pss_one (ps_ret (pe_callB call_len_seq (by rfl) T.b_len PySem.boot_len (pa_cons (pe_fld (pv 0) rfl) pa_nil)))), ?_⟩
    refine ⟨_, rfl, a, C, dx, _, _, rfl, h1, W.cl, W.nW, wk_words _ _ _, t, _, rfl, .inr (SqT.of h2), ?_⟩
    rw [List.length_map]
    exact k
def spWkIn (C : Addr) : Sp := fun vs H Q _ => ∃ (a : Addr) (x nm : Str) (ws : List Str), vs = [.ref a, .str x] ∧ WkAt C H a nm ws ∧ ws.Nodup ∧ Q (.bl (decide (x ∈ ws))) H
abbrev s_Work_contains : Stmt := inClass (top 16) 5
theorem sc_Work_contains : FnScope ["self", "x"] ["self", "x"] (defScope s_Work_contains) := ⟨rfl, rfl, rfl, by decide +kernel, rfl, by decide +kernel, by decide +kernel⟩
theorem ok_wk_in {C : Addr} (F : Fun K "__contains__" "Work.__contains__" s_Work_contains f fd) (T : Blt mg) (W : WkTxt K C) : FnOk P w K mg base CX0 1 f fd ["self", "x"] (spWkIn C) := by
  refine F.ok sc_Work_contains (fun vs H Q E h => ?_) (fun cdv A outer s H vs Q E hr h => ?_)
  · obtain ⟨a, x, nm, ws, rfl, _⟩ := h
    rfl
  · obtain ⟨a, x, nm, ws, rfl, ⟨dx, t, d, h1, h2, h3⟩, nd, k⟩ := h
    have hu := hu_of hr
    refine ⟨_, (pss_one (ps_ret (pe_and (pe_callB call_isi (by rfl) T.b_isinstance (by decide +kernel) (pa_cons (pv 1) (pa_cons (pe_bltn (v := .ty "str") (u := .type "str") (by rfl) T.b_str (by decide +kernel) rfl) pa_nil))) (pe_one (pe_cmp (pc_din hu (pv 1) (pe_fld (pv 0) rfl)) rfl))))), ?_⟩
    refine ⟨_, rfl, _, _, _, _, true, rfl, .ty _, .base (.str x), kit_ty (by decide +kernel), true, rfl, ?_⟩
    refine ⟨_, rfl, _, rfl, a, C, dx, _, _, rfl, h1, W.cl, W.nE, wk_ends _ _ _, d, _, rfl, DGet.k (k := Sum.inr x) h3, ?_⟩
    rw [valV_mem nd]
    exact k
def spWkEnd (C : Addr) : Sp := fun vs H Q _ => ∃ (a : Addr) (x nm : Str) (ws : List Str) (i : Nat), vs = [.ref a, .str x] ∧ WkAt C H a nm ws ∧ ws.Nodup ∧ ws[i]? = some x ∧ Q (.int ((i : Int) + 1)) H
abbrev s_Work_end_of : Stmt := inClass (top 16) 3
theorem sc_Work_end_of : FnScope ["self", "word"] ["self", "word"] (defScope s_Work_end_of) := ⟨rfl, rfl, rfl, by decide +kernel, rfl, by decide +kernel, by decide +kernel⟩
theorem ok_wk_end {C fI : Addr} {fdI : FuncData} (F : Fun K "end_of" "Work.end_of" s_Work_end_of f fd) (T : Blt mg) (W : WkTxt K C) (M_Work_contains : MetOk P w K mg base 1 C "__contains__" fI fdI ["self", "x"] (spWkIn C)) : FnOk P w K mg base CX0 2 f fd ["self", "word"] (spWkEnd C) := by
  refine F.ok sc_Work_end_of (fun vs H Q E h => ?_) (fun cdv A outer s H vs Q E hr h => ?_)
  · obtain ⟨a, x, nm, ws, i, rfl, _⟩ := h
    rfl
  · obtain ⟨a, x, nm, ws, i, rfl, kw, nd, hi, k⟩ := h
    obtain ⟨dx, t, d, h1, h2, h3⟩ := kw.ob
    have hu := hu_of hr
    have hx : x ∈ ws := List.mem_of_getElem? hi
    refine ⟨_, (pss_one (ps_ret (pe_ifExp (pt_cmpR (M_Work_contains.isin (hr.mono (by decide))) (pv 1) (pv 0) (by rfl)) (pe_dget hu (pe_fld (pv 0) rfl) (pv 1) (fun _ _ => rfl)) pe_int))), ?_⟩
    refine ⟨_, rfl, _, rfl, a, dx, _, rfl, h1, a, x, nm, ws, rfl, kw, nd, _, rfl, ?_⟩
    rw [decide_eq_true hx]
    refine ⟨_, rfl, ?_⟩
    have hg : DGet H d (.str x) (some (.int (((0 : Nat) : Int) + (i : Int) + 1))) := by
      have := DGet.k (k := Sum.inr x) h3
      rw [endsL_at 0 ws i x nd hi] at this
      exact this
    have e0 : ((0 : Nat) : Int) + (i : Int) + 1 = (i : Int) + 1 := by omega
    rw [e0] at hg
    exact ⟨_, rfl, a, C, dx, _, _, rfl, h1, W.cl, W.nE, wk_ends _ _ _, _, rfl, d, _, rfl, hg, k⟩
/-! ### == -/
theorem dpAll_strs {H : Hp} : ∀ ws : List Str, DpAll K H (ws.map V.str) (ws.map PyData.str)
  | [] => .nil
  | x :: r => .cons (.str x) (dpAll_strs r)
theorem isW_ok {x : Str} (h : isW x = true) : PyData.strOk x = true := by
  unfold isW at h
  simp only [Bool.and_eq_true, List.all_eq_true, decide_eq_true_eq] at h
  unfold PyData.strOk
  rw [Array.all_eq_true']
  intro c hc
  have := (h.2 c (by simpa using hc)).2
  simp
  omega
theorem depth_strs : ∀ ws : List Str, PyData.depthAll (ws.map PyData.str) = 0
  | [] => rfl
  | x :: r => by
    show max (PyData.depth (.str x)) (PyData.depthAll (r.map PyData.str)) = 0
    rw [depth_strs r]
    rfl
theorem lay_strs : ∀ ws : List Str, (∀ x ∈ ws, isW x = true) → PyData.canLayAll0 (ws.map PyData.str) = true
  | [], _ => rfl
  | x :: r, h => by
    show (PyData.strOk x && PyData.canLayAll0 (r.map PyData.str)) = true
    rw [isW_ok (h x List.mem_cons_self), lay_strs r fun y hy => h y (List.mem_cons_of_mem _ hy)]
    rfl
theorem shaped_strs (ws : List Str) (h : ∀ x ∈ ws, isW x = true) : PySem.SeqAt.shaped (.tuple (ws.map PyData.str)) = true := by
  show (PyData.canLayAll0 (ws.map PyData.str) && decide (PyData.depthAll (ws.map PyData.str) + 1 ≤ 64)) = true
  rw [lay_strs ws h, depth_strs]
  rfl
theorem eqvAll_strs : ∀ ws vs : List Str, PyData.eqvAll (ws.map PyData.str) (vs.map PyData.str) = decide (ws = vs)
  | [], [] => rfl
  | [], _ :: _ => rfl
  | _ :: _, [] => rfl
  | x :: r, y :: t => by
    show ((x == y) && PyData.eqvAll (r.map PyData.str) (t.map PyData.str)) = decide (x :: r = y :: t)
    rw [eqvAll_strs r t]
    by_cases h1 : x = y <;> by_cases h2 : r = t <;> simp [h1, h2]
theorem eqv_strs (ws vs : List Str) : PyData.eqv (.tuple (ws.map PyData.str)) (.tuple (vs.map PyData.str)) = decide (ws = vs) := eqvAll_strs ws vs
def spWkEq (C : Addr) : Sp := fun vs H Q _ => ∃ (a b : Addr) (nm nm' : Str) (ws ws' : List Str), vs = [.ref a, .ref b] ∧ WkAt C H a nm ws ∧ WkAt C H b nm' ws' ∧ (∀ x ∈ ws, isW x = true) ∧ (∀ x ∈ ws', isW x = true) ∧ Q (.bl (decide (nm = nm' ∧ ws = ws'))) H
structure WkIsi (K : PySem.W.Frag) (mg : Str → Option Value) (C : Addr) : Prop where
  g_Work : mg "Work" = some (.ref C)
  ha : PySem.W.findIn K (.ref C) "__class__" = some (some (.builtin "object.__class__"))
  hn : PySem.W.specialIn K (.builtin "object.__class__") "__get__" = some (some (.builtin "getset_descriptor.__get__"))
  htk : PySem.W.takesIn K (.builtin "object.__class__") = some true
  hm : PySem.W.mroIn K C (.type "object") = some true
  ko : PySem.W.kitOne K (.ref C) (.ref C) = some true
abbrev s_Work_eq : Stmt := inClass (top 16) 6
theorem sc_Work_eq : FnScope ["self", "other"] ["self", "other"] (defScope s_Work_eq) := ⟨rfl, rfl, rfl, by decide +kernel, rfl, by decide +kernel, by decide +kernel⟩
theorem ok_wk_eq {C : Addr} (F : Fun K "__eq__" "Work.__eq__" s_Work_eq f fd) (T : Blt mg) (W : WkTxt K C) (T' : WkIsi K mg C) : FnOk P w K mg base CX0 1 f fd ["self", "other"] (spWkEq C) := by
  refine F.ok sc_Work_eq (fun vs H Q E h => ?_) (fun cdv A outer s H vs Q E hr h => ?_)
  · obtain ⟨a, b, nm, nm', ws, ws', rfl, _⟩ := h
    rfl
  · obtain ⟨a, b, nm, nm', ws, ws', rfl, ⟨dx, t, d, h1, h2, h3⟩, ⟨dy, t', d', g1, g2, g3⟩, l1, l2, k⟩ := h
    refine ⟨_, (pss_one (ps_ret (pe_and (pe_callB call_isi (by rfl) T.b_isinstance (by decide +kernel) (pa_cons (pv 1) (pa_cons (pe_glob (v := .ref _) rfl T'.g_Work rfl) pa_nil))) (pe_and (pe_cmpR op_eq (pe_fld (pv 0) rfl) (pe_fld (pv 1) rfl) (nomark _)) (pe_one (pe_cmpR (op_eqD hr.units) (pe_fld (pv 0) rfl) (pe_fld (pv 1) rfl) (nomark _))))))), ?_⟩
    refine ⟨_, rfl, _, _, _, _, true, rfl, .own C, .base (.ins g1 W.cl T'.ha T'.hn T'.htk T'.hm), T'.ko, true, rfl, ?_⟩
    refine ⟨_, rfl, a, C, dx, _, _, rfl, h1, W.cl, W.nN, wk_name _ _ _, _, rfl, b, C, dy, _, _, rfl, g1, W.cl, W.nN, wk_name _ _ _, rfl, _, rfl, ite2 (fun hn => ?_) (fun hn => ?_)⟩
    · have hn : nm = nm' := V.str.inj (of_decide_eq_true hn)
      refine ⟨_, rfl, a, C, dx, _, _, rfl, h1, W.cl, W.nW, wk_words _ _ _, _, rfl, b, C, dy, _, _, rfl, g1, W.cl, W.nW, wk_words _ _ _, _, _, .tup (SqT.of h2) (dpAll_strs ws), .tup (SqT.of g2) (dpAll_strs ws'), shaped_strs ws l1, shaped_strs ws' l2, ?_⟩
      have e : decide (nm = nm' ∧ ws = ws') = decide (ws = ws') := by simp [hn]
      rw [e] at k
      rw [eqv_strs]
      exact k
    · have hn : ¬ nm = nm' := fun z => hn (decide_eq_true (congrArg V.str z))
      have e : decide (nm = nm' ∧ ws = ws') = false := by simp [hn]
      rw [e] at k
      exact k
end
end Lm

namespace Lm
open PySem L2
def nts (l : List Nat) : List V := l.map fun n : Nat => V.int n
theorem nts_len (l : List Nat) : (nts l).length = l.length := List.length_map ..
theorem nts_at {l : List Nat} {i n : Nat} (h : l[i]? = some n) : (nts l)[i]? = some (V.int n) := by
  unfold nts
  rw [List.getElem?_map, h]
  rfl
theorem nts_flat (l : List Nat) : (nts l).all flatV = true := by
  unfold nts
  rw [List.all_eq_true]
  intro x hx
  obtain ⟨n, _, rfl⟩ := List.mem_map.mp hx
  rfl
theorem nts_in (l : List Nat) (n : Nat) : inV (.int n) (nts l) = decide (n ∈ l) := by
  unfold inV nts
  induction l with
  | nil => rfl
  | cons a r ih =>
    rw [List.map_cons, List.any_cons, ih]
    show ((a : Int) == (n : Int) || decide (n ∈ r)) = decide (n ∈ a :: r)
    by_cases h : a = n
    · subst h; simp
    · have h2 : ¬ (a : Int) = (n : Int) := fun z => h (by omega)
      have h3 : ¬ n = a := fun z => h z.symm
      simp [h2, h3]
theorem strs_flat (l : List Str) : (l.map V.str).all flatV = true := by
  rw [List.all_eq_true]
  intro x hx
  obtain ⟨n, _, rfl⟩ := List.mem_map.mp hx
  rfl
theorem strs_in (l : List Str) (x : Str) : inV (.str x) (l.map V.str) = decide (x ∈ l) := by
  unfold inV
  induction l with
  | nil => rfl
  | cons a r ih =>
    rw [List.map_cons, List.any_cons, ih]
    show ((a == x) || decide (x ∈ r)) = decide (x ∈ a :: r)
    by_cases h : a = x
    · subst h; simp
    · have h3 : ¬ x = a := fun z => h z.symm
      simp [h, h3]
section
variable {P : Program} {w : World} {K : PySem.W.Frag} {mg : Str → Option Value} {base : Heap} {f : Addr} {fd : FuncData}
def spCuts (C : Addr) : Sp := fun vs H Q _ => ∃ (wk a : Addr) (nm : Str) (ws : List Str) (S : Nat → Bool), vs = [.ref wk, .ref a] ∧ WkAt C H wk nm ws ∧ ws.Nodup ∧ ws.length ≤ 60 ∧ SeqAt H a ((pick ws S).map V.str) ∧
  ∀ p H', H p = none → Same H H' → H' p = some (.lst (nts (cutsL ws.length S))) → Q (.ref p) H'
abbrev s_cuts_behind : Stmt := top 18
theorem sc_cuts_behind : FnScope ["work", "passages", "cuts", "index", "word", "cut"] ["work", "passages"] (defScope s_cuts_behind) := ⟨rfl, rfl, rfl, by decide +kernel, rfl, by decide +kernel, by decide +kernel⟩
theorem ok_cuts {C fR fE : Addr} {fdR fdE : FuncData} (F : Fun K "cuts_behind" "cuts_behind" s_cuts_behind f fd) (T : Blt mg) (D_is_row : DefOk P w K mg base 1 "is_row" fR fdR ["x"] spIsRow) (M_Work_end_of : MetOk P w K mg base 2 C "end_of" fE fdE ["self", "word"] (spWkEnd C)) :
    FnOk P w K mg base CX0 3 f fd ["work", "passages"] (spCuts C) := by
  refine F.ok sc_cuts_behind (fun vs H Q E h => ?_) (fun cdv A outer s H vs Q E hr h => ?_)
  · obtain ⟨wk, a, nm, ws, S, rfl, _⟩ := h
    rfl
  · obtain ⟨wk, a, nm, ws, S, rfl, kw, nd, l1, hq, k⟩ := h
    refine ⟨_, (pss_cons (ps_if (pt_not (pt_val (pe_d D_is_row (hr.mono (by decide)) (pa_cons (pv 1) pa_nil)))) (pss_one ps_never) pss_nil)
        (pss_cons (ps_set (i := 2) sc_cuts_behind.nd rfl (by first | exact Or.inl rfl | exact Or.inr rfl) (pe_lst (pa_cons pe_int pa_nil)))
        (pss_cons (ps_for PassesOwn.never rfl (pi_enumA rfl T.b_enumerate (pa_cons (pv 1) pa_nil)) (pg_tup rfl (pgs_cons (pg_name (i := 3) sc_cuts_behind.nd rfl (by first | exact Or.inl rfl | exact Or.inr rfl)) (pgs_cons (pg_name (i := 4) sc_cuts_behind.nd rfl (by first | exact Or.inl rfl | exact Or.inr rfl)) pgs_nil))) (pss_cons (ps_set (i := 5) sc_cuts_behind.nd rfl (by first | exact Or.inl rfl | exact Or.inr rfl) (pe_m M_Work_end_of (hr.mono (by decide)) (pv 0) (pa_cons (pv 4) pa_nil)))
        (pss_cons (ps_if (pt_cmpR op_le (pv 5) (pe_ix ix_list (pv 2) (pe_un un_neg pe_int) (fun _ _ => rfl)) (nomark _)) (pss_one ps_never) pss_nil)
        (pss_one (ps_expr (pe_bm PySem.F.plainAttrs_list PySem.F.slot_list_append PySem.F.type_list_append mt_append (pv 2) (pa_cons (pv 5) pa_nil)))))))
        (pss_one (ps_ret (pv 2)))))), ?_⟩
    refine ⟨_, rfl, a, _, rfl, hq, fun H1 e1 => ⟨_, rfl, ?_⟩⟩
    have hq1 : SeqAt H1 a ((pick ws S).map V.str) := hq.elim (fun h => .inl (e1 _ _ h)) fun h => .inr (e1 _ _ h)
    refine ⟨by show 1 ≤ sizeLine; decide, fun p np => ?_⟩
    have npH : H p = none := e1.free np
    have hq2 : SeqAt (upd H1 p (.lst [.int 0])) a ((pick ws S).map V.str) := hq1.elim (fun h => .inl (Same.upd' np _ _ h)) fun h => .inr (Same.upd' np _ _ h)
    have e2 : Same H (upd H1 p (.lst [.int 0])) := e1.trans (Same.upd' np)
    have hl : ((pick ws S).map V.str).length = (idx ws.length S).length := by rw [List.length_map]; unfold pick; rw [List.length_map]
    refine ⟨_, rfl, for_enumA hq2 (fun i σ' H' => ∃ u v x : Option V, σ' = [some (.ref wk), some (.ref a), some (.ref p), u, v, x] ∧ H' p = some (.lst (nts (0 :: ((idx ws.length S).take i).map (· + 1)))) ∧ Same H H')
      ⟨none, none, none, rfl, upd_same, e2⟩ ?_ ?_ ?_⟩
    · rintro i σ' H' _ ⟨u, v, x, rfl, gp, e⟩ o ho
      rcases hq with hq | hq
      · rw [e2 _ _ hq] at ho
        rw [← ho]; exact e _ _ hq
      · rw [e2 _ _ hq] at ho
        rw [← ho]; exact e _ _ hq
    · rintro i y σ' H' H'' hi ⟨u, v, x, rfl, gp, e⟩ ⟨T', x1, x2, rfl, nT, rfl, hx1, hx2⟩
      cases (Option.some.inj hx1)
      have hx2 : ((pick ws S).map V.str)[i]? = some x2 := hx2
      rw [hl] at hi
      obtain ⟨j, hj⟩ : ∃ j, (idx ws.length S)[i]? = some j := ⟨_, List.getElem?_eq_getElem hi⟩
      have hjm := idx_mem.mp (List.mem_of_getElem? hj)
      unfold pick at hx2
      rw [List.map_map, List.getElem?_map, hj] at hx2
      cases (Option.some.inj hx2)
      have hw : ws[j]? = some (ws.getD j no) := by
        rw [List.getD_eq_getElem?_getD, List.getElem?_eq_getElem hjm.1]
        rfl
      have hTp : T' ≠ p := (ne_of_none gp nT).symm
      have e3 : Same H (upd H' T' (.tup [.int (i : Nat), .str (ws.getD j no)])) := e.trans (Same.upd' nT)
      have kw3 := kw.same e3
      obtain ⟨dx, t, d, o1, o2, o3⟩ := kw3.ob
      refine ⟨T', _, rfl, SqT.of upd_same, rfl, _, _, rfl, _, _, rfl, rfl, ?_⟩
      refine ⟨_, rfl, wk, dx, _, rfl, o1, wk_no _ _ _ (by decide +kernel) (by decide +kernel) (by decide +kernel), _, rfl, wk, _, nm, ws, j, rfl, kw3, nd, hw, ?_⟩
      have gp2 : (upd H' T' (.tup [.int (i : Nat), .str (ws.getD j no)])) p = some (.lst (nts (0 :: ((idx ws.length S).take i).map (· + 1)))) := by rw [upd_ne hTp.symm]; exact gp
      -- the last cut is less
      obtain ⟨pre, z, hz, hlt⟩ : ∃ (pre : List V) (z : Nat), nts (0 :: ((idx ws.length S).take i).map (· + 1)) = pre ++ [.int z] ∧ z < j + 1 := by
        cases i with
        | zero => exact ⟨[], 0, rfl, by omega⟩
        | succ i =>
          obtain ⟨j', hj'⟩ : ∃ j', (idx ws.length S)[i]? = some j' := ⟨_, List.getElem?_eq_getElem (by omega)⟩
          have hlt : j' < j := by
            obtain ⟨a1, b1⟩ := List.getElem?_eq_some_iff.mp hj'
            obtain ⟨a2, b2⟩ := List.getElem?_eq_some_iff.mp hj
            have := List.pairwise_iff_getElem.mp (idx_sorted ws.length S) i (i + 1) a1 a2 (by omega)
            rw [b1, b2] at this
            exact this
          refine ⟨nts (0 :: ((idx ws.length S).take i).map (· + 1)), j' + 1, ?_, by omega⟩
          rw [List.take_succ, hj']
          simp [nts]
      have hnl : decide ((((j : Int) + 1)) ≤ (z : Int)) = false := decide_eq_false (by omega)
      refine ⟨_, rfl, _, rfl, _, rfl, _, _, _, _, rfl, rfl, SqL.of gp2, by rw [hz]; exact atI_last _ _, _, _, rfl, rfl, _, rfl, ?_⟩
      rw [hnl]
      refine ⟨_, rfl, .inl ⟨rfl, _, SqL.of gp2⟩, _, rfl, _, _, _, rfl, rfl, gp2, small1000 (by rw [nts_len]; simp; have := idx_len ws.length S; omega), ?_⟩
      refine ⟨_, _, _, rfl, ?_, Same.mut e3 npH⟩
      rw [upd_same, List.take_succ, hj]
      simp [nts]
    · rintro σ' H' ⟨u, v, x, rfl, gp, e⟩
      rw [hl, List.take_length] at gp
      exact ⟨_, rfl, k p H' npH e gp⟩
def spCounts : Sp := fun vs H Q _ => ∃ (c : Addr) (N : Nat) (S : Nat → Bool), vs = [.ref c, .int N] ∧ H c = some (.lst (nts (cutsL N S))) ∧ N ≤ 60 ∧ ∀ p H', H p = none → Same H H' → H' p = some (.lst (nts (countsL N S))) → Q (.ref p) H'
abbrev s_counts_at : Stmt := top 19
theorem sc_counts_at : FnScope ["cuts", "length", "counts", "cut"] ["cuts", "length"] (defScope s_counts_at) := ⟨rfl, rfl, rfl, by decide +kernel, rfl, by decide +kernel, by decide +kernel⟩
theorem ok_counts (F : Fun K "counts_at" "counts_at" s_counts_at f fd) (T : Blt mg) : FnOk P w K mg base CX0 1 f fd ["cuts", "length"] spCounts := by
  refine F.ok sc_counts_at (fun vs H Q E h => ?_) (fun cdv A outer s H vs Q E hr h => ?_)
  · obtain ⟨c, N, S, rfl, _⟩ := h
    rfl
  · obtain ⟨c, N, S, rfl, hc, hN, k⟩ := h
    refine ⟨_, (pss_cons (ps_set (i := 2) sc_counts_at.nd rfl (by first | exact Or.inl rfl | exact Or.inr rfl) (pe_lst (pa_cons pe_int pa_nil)))
        (pss_cons (ps_for PassesOwn.never rfl (pi_range2 rfl T.b_range (pa_cons pe_int (pa_cons (pe_op op_add (pv 1) pe_int) pa_nil))) (pg_name (i := 3) sc_counts_at.nd rfl (by first | exact Or.inl rfl | exact Or.inr rfl)) (pss_one (ps_expr (pe_bm PySem.F.plainAttrs_list PySem.F.slot_list_append PySem.F.type_list_append mt_append (pv 2) (pa_cons (pe_op op_add (pe_ix ix_list (pv 2) (pe_un un_neg pe_int) (fun _ _ => rfl)) (pe_callTy call_int1 (by rfl) T.b_int (by decide +kernel) (pa_cons (pe_cmpR op_in_seq (pv 3) (pv 0) (by rfl)) pa_nil))) pa_nil)))))
        (pss_one (ps_ret (pv 2))))), ?_⟩
    refine ⟨by show 1 ≤ sizeLine; decide, fun p np => ?_⟩
    have hpc : p ≠ c := (ne_of_none hc np).symm
    refine ⟨_, rfl, _, _, rfl, rfl, _, _, rfl, ⟨by decide, by decide, by omega, by omega⟩, for_range (lo := 1) (n := ((N : Int) + 1 - 1).toNat) (fun i σ' H' => ∃ u : Option V, σ' = [some (.ref c), some (.int N), some (.ref p), u] ∧ H' p = some (.lst (nts ((List.range (i + 1)).map (cnt S)))) ∧ Same H H')
      ⟨none, rfl, upd_same, Same.upd' np⟩ ?_ ?_⟩
    · rintro i σ' H' hi ⟨u, rfl, gp, e⟩
      have hi : i < N := by omega
      have hpre : nts ((List.range (i + 1)).map (cnt S)) = nts ((List.range i).map (cnt S)) ++ [.int (cnt S i : Nat)] := by
        rw [List.range_succ]
        simp [nts]
      have e1 : (1 : Int) + (i : Int) = ((i + 1 : Nat) : Int) := by omega
      refine ⟨_, rfl, .inl ⟨rfl, _, SqL.of gp⟩, ?_⟩
      refine ⟨_, rfl, _, rfl, _, _, _, _, rfl, rfl, SqL.of gp, by rw [hpre]; exact atI_last _ _, _, rfl, _, rfl, c, _, rfl, .inl (SqL.of (e _ _ hc)), rfl, nts_flat _, .inr ⟨_, rfl, _, _, rfl, rfl, ?_⟩⟩
      refine ⟨_, _, _, rfl, rfl, gp, small1000 (by rw [nts_len]; simp; omega), ?_⟩
      refine ⟨_, rfl, ?_, Same.mut e np⟩
      have e2 : inV (.int ((1 : Int) + (i : Int))) (nts (cutsL N S)) = S i := by
        rw [e1, nts_in]
        by_cases h : S i = true
        · rw [h]; exact decide_eq_true (cuts_mem.mpr ⟨hi, h⟩)
        · rw [decide_eq_false (fun z => h (cuts_mem.mp z).2)]
          simpa using h
      rw [upd_same]
      show some (HO.lst (nts ((List.range (i + 1)).map (cnt S)) ++ [V.int ((cnt S i : Nat) + if inV (.int ((1 : Int) + (i : Int))) (nts (cutsL N S)) = true then 1 else 0)])) = some (HO.lst (nts ((List.range (i + 1 + 1)).map (cnt S))))
      rw [e2, List.range_succ (n := i + 1), List.map_append, List.map_singleton, cnt_succ]
      by_cases h : S i = true <;> simp [nts, h]
    · rintro σ' H' ⟨u, rfl, gp, e⟩
      have hN2 : ((N : Int) + 1 - 1).toNat = N := by omega
      rw [hN2] at gp
      exact ⟨_, rfl, k p H' np e gp⟩
/-! ### an edition as it stands in the heap -/
def edF (wk t u v : Addr) : List (Str × V) := [("work", .ref wk), ("words", .ref t), ("cuts", .ref u), ("counts", .ref v)]
theorem e_1 : (("words" : Str) == "work") = false := by decide +kernel
theorem e_2 : (("cuts" : Str) == "work") = false := by decide +kernel
theorem e_3 : (("cuts" : Str) == "words") = false := by decide +kernel
theorem e_4 : (("counts" : Str) == "work") = false := by decide +kernel
theorem e_5 : (("counts" : Str) == "words") = false := by decide +kernel
theorem e_6 : (("counts" : Str) == "cuts") = false := by decide +kernel
theorem ed_work (wk t u v : Addr) : (edF wk t u v).lookup ("work" : Str) = some (.ref wk) := by simp [edF, List.lookup]
theorem ed_words (wk t u v : Addr) : (edF wk t u v).lookup ("words" : Str) = some (.ref t) := by simp [edF, List.lookup, e_1]
theorem ed_cuts (wk t u v : Addr) : (edF wk t u v).lookup ("cuts" : Str) = some (.ref u) := by simp [edF, List.lookup, e_2, e_3]
theorem ed_counts (wk t u v : Addr) : (edF wk t u v).lookup ("counts" : Str) = some (.ref v) := by simp [edF, List.lookup, e_4, e_5, e_6]
theorem ed_no (wk t u v : Addr) {m : Str} (h1 : (m == "work") = false) (h2 : (m == "words") = false) (h3 : (m == "cuts") = false) (h4 : (m == "counts") = false) : (edF wk t u v).lookup m = none := by simp [edF, List.lookup, h1, h2, h3, h4]
def p1 (wk : Addr) : List (Str × V) := [("work", .ref wk)]
def p2 (wk t : Addr) : List (Str × V) := [("work", .ref wk), ("words", .ref t)]
def p3 (wk t u : Addr) : List (Str × V) := [("work", .ref wk), ("words", .ref t), ("cuts", .ref u)]
theorem ne_b {a b : Str} (h : (a == b) = false) : ¬ (b = a) := fun z => by rw [z] at h; simp at h
theorem put1 (wk : Addr) : putF "work" (.ref wk) [] = p1 wk := rfl
theorem put2 (wk t : Addr) : putF "words" (.ref t) (p1 wk) = p2 wk t := by simp [putF, p1, p2, ne_b e_1]
theorem put3 (wk t u : Addr) : putF "cuts" (.ref u) (p2 wk t) = p3 wk t u := by simp [putF, p2, p3, ne_b e_2, ne_b e_3]
theorem put4 (wk t u v : Addr) : putF "counts" (.ref v) (p3 wk t u) = edF wk t u v := by simp [putF, p3, edF, ne_b e_4, ne_b e_5, ne_b e_6]
/-- the edition of the passages S of the work at wk, at e -/
structure EdAt (CW CE : Addr) (H : Hp) (e wk : Addr) (nm : Str) (ws : List Str) (S : Nat → Bool) : Prop where
  ob : ∃ dx t u v, H e = some (.ins CE dx (edF wk t u v)) ∧ H t = some (.tup ((pick ws S).map V.str)) ∧ H u = some (.tup (nts (cutsL ws.length S))) ∧ H v = some (.tup (nts (countsL ws.length S)))
  wk : WkAt CW H wk nm ws
theorem EdAt.same {CW CE : Addr} {H H' : Hp} {a wk : Addr} {nm : Str} {ws : List Str} {S : Nat → Bool} (k : EdAt CW CE H a wk nm ws S) (e : Same H H') : EdAt CW CE H' a wk nm ws S := by
  obtain ⟨⟨dx, t, u, v, h1, h2, h3, h4⟩, h5⟩ := k
  exact ⟨⟨dx, t, u, v, e _ _ h1, e _ _ h2, e _ _ h3, e _ _ h4⟩, h5.same e⟩
theorem EdAt.kp {CW CE st : Addr} {H H' : Hp} {a wk : Addr} {nm : Str} {ws : List Str} {S : Nat → Bool} {xs : List V} (k : EdAt CW CE H a wk nm ws S) (e : Kp st H H') (hs : H st = some (.lst xs)) : EdAt CW CE H' a wk nm ws S := by
  obtain ⟨⟨dx, t, u, v, h1, h2, h3, h4⟩, h5⟩ := k
  exact ⟨⟨dx, t, u, v, e _ _ (ne_of h1 hs (by intro z; cases z)) h1, e _ _ (ne_of h2 hs (by intro z; cases z)) h2, e _ _ (ne_of h3 hs (by intro z; cases z)) h3, e _ _ (ne_of h4 hs (by intro z; cases z)) h4⟩, h5.kp e hs⟩
structure EdTxt (K : PySem.W.Frag) (C : Addr) : Prop where
  cl : Cls K C
  nK : NoAttr K C "work"
  nW : NoAttr K C "words"
  nC : NoAttr K C "cuts"
  nN : NoAttr K C "counts"
/-- a work is right: its words -/
structure WOk (ws : List Str) : Prop where
  ok : Wds ws ws.length
  l0 : 0 < ws.length
  l1 : ws.length ≤ 60
def spEdInit (CW CE : Addr) : Sp := fun vs H Q _ => ∃ (p dx wk a : Addr) (nm : Str) (ws : List Str) (S : Nat → Bool), vs = [.ref p, .ref wk, .ref a] ∧ H p = some (.ins CE dx []) ∧ WkAt CW H wk nm ws ∧ WOk ws ∧ SeqAt H a ((pick ws S).map V.str) ∧ wk ≠ p ∧
  ∀ H', EdAt CW CE H' p wk nm ws S → Kp p H H' → Q .non H'
abbrev s_Edition_init : Stmt := inClass (top 17) 0
theorem sc_Edition_init : FnScope ["self", "work", "passages", "cuts"] ["self", "work", "passages"] (defScope s_Edition_init) := ⟨rfl, rfl, rfl, by decide +kernel, rfl, by decide +kernel, by decide +kernel⟩
theorem WkAt.kpi {C C' p dx : Addr} {H H' : Hp} {a : Addr} {nm : Str} {ws : List Str} {fs : List (Str × V)} (k : WkAt C H a nm ws) (e : Kp p H H') (hs : H p = some (.ins C' dx fs)) (ha : a ≠ p) : WkAt C H' a nm ws := by
  obtain ⟨⟨dx, t, d, h1, h2, h3⟩⟩ := k
  exact ⟨⟨dx, t, d, e _ _ ha h1, e _ _ (ne_of h2 hs (by intro z; cases z)) h2, e _ _ (ne_of h3 hs (by intro z; cases z)) h3⟩⟩
theorem ok_ed_init {CW CE fC fN fL : Addr} {fdC fdN fdL : FuncData} (F : Fun K "__init__" "Edition.__init__" s_Edition_init f fd) (T : Blt mg) (W : EdTxt K CE)
    (D_cuts_behind : DefOk P w K mg base 3 "cuts_behind" fC fdC ["work", "passages"] (spCuts CW)) (D_counts_at : DefOk P w K mg base 1 "counts_at" fN fdN ["cuts", "length"] spCounts)
    (M_Work_len : MetOk P w K mg base 1 CW "__len__" fL fdL ["self"] (spWkLen CW)) : FnOk P w K mg base CX0 4 f fd ["self", "work", "passages"] (spEdInit CW CE) := by
  refine F.ok sc_Edition_init (fun vs H Q E h => ?_) (fun cdv A outer s H vs Q E hr h => ?_)
  · obtain ⟨p, dx, wk, a, nm, ws, S, rfl, _⟩ := h
    rfl
  · obtain ⟨p, dx, wk, a, nm, ws, S, rfl, hp, kw, hw, hq, hwp, k⟩ := h
    refine ⟨_, (pss_cons (ps_set (i := 3) sc_Edition_init.nd rfl (by first | exact Or.inl rfl | exact Or.inr rfl) (pe_d D_cuts_behind (hr.mono (by decide)) (pa_cons (pv 1) (pa_cons (pv 2) pa_nil))))
        (pss_cons (ps_fld (pv 0) (pv 1) rfl)
        (pss_cons (ps_fld (pv 0) (pe_callTy call_tuple_of (by rfl) T.b_tuple (by decide +kernel) (pa_cons (pv 2) pa_nil)) rfl)
        (pss_cons (ps_fld (pv 0) (pe_callTy call_tuple_of (by rfl) T.b_tuple (by decide +kernel) (pa_cons (pv 3) pa_nil)) rfl)
        (pss_one (ps_fld (pv 0) (pe_callTy call_tuple_of (by rfl) T.b_tuple (by decide +kernel) (pa_cons (pe_d D_counts_at (hr.mono (by decide)) (pa_cons (pv 3) (pa_cons (pe_callB (M_Work_len.len (hr.mono (by decide))) (by rfl) T.b_len PySem.boot_len (pa_cons (pv 1) pa_nil)) pa_nil))) pa_nil)) rfl)))))), ?_⟩
    have hap : a ≠ p := by
      rcases hq with hq | hq
      · exact ne_of hq hp (by intro z; cases z)
      · exact ne_of hq hp (by intro z; cases z)
    refine ⟨_, rfl, _, rfl, wk, a, nm, ws, S, rfl, kw, hw.ok.nd, hw.l1, hq, fun c H1 nc e1 hc => ?_⟩
    have hcp : c ≠ p := (ne_of_none hp nc).symm
    have hp1 := e1 _ _ hp
    refine ⟨_, rfl, _, rfl, p, CE, dx, _, rfl, hp1, W.cl, W.nK, by decide, ?_⟩
    rw [put1]
    generalize hH2 : upd H1 p (.ins CE dx (p1 wk)) = H2
    have kp2 : Kp p H H2 := by rw [← hH2]; exact (Kp.of e1).trans (Kp.upd _ _ _)
    have hp2 : H2 p = some (.ins CE dx (p1 wk)) := by rw [← hH2]; exact upd_same
    have hc2 : H2 c = some (.lst (nts (cutsL ws.length S))) := by rw [← hH2, upd_ne hcp]; exact hc
    clear hH2
    -- behind the words, at t
    have fin : ∀ (t : Addr) (H3 : Hp), H3 p = some (.ins CE dx (p1 wk)) → H3 t = some (.tup ((pick ws S).map V.str)) → H3 c = some (.lst (nts (cutsL ws.length S))) → Kp p H H3 → t ≠ p →
        tSeq (sFld K (tVar 0) (tCB (fun xs H Q => ∃ p ys, xs = [.ref p] ∧ ((SqL K H p ys ∧ ∀ l, H l = none → Q (.ref l) (upd H l (.tup ys))) ∨ (SqT K H p ys ∧ Q (.ref p) H))) (tCons (tVar 3) tNil)) "cuts")
          (sFld K (tVar 0) (tCB (fun xs H Q => ∃ p ys, xs = [.ref p] ∧ ((SqL K H p ys ∧ ∀ l, H l = none → Q (.ref l) (upd H l (.tup ys))) ∨ (SqT K H p ys ∧ Q (.ref p) H))) (tCons (tCall spCounts [] E0 (tCons (tVar 3) (tCons (tCB (rLenOwn CW (spWkLen CW) E0) (tCons (tVar 1) tNil)) tNil))) tNil)) "counts")
          { nx := fun _ H' => Q .non H', rt := Q } [some (.ref p), some (.ref wk), some (.ref a), some (.ref c)] (upd H3 p (.ins CE dx (p2 wk t))) := by
      intro t H3 g1 g2 g3 g4 htp
      have g5 : (upd H3 p (.ins CE dx (p2 wk t))) c = some (.lst (nts (cutsL ws.length S))) := by rw [upd_ne hcp]; exact g3
      refine ⟨_, rfl, c, _, rfl, .inl ⟨SqL.of g5, fun u nu => ?_⟩⟩
      have hup : u ≠ p := (ne_of_none upd_same nu).symm
      have huc : u ≠ c := (ne_of_none g5 nu).symm
      have hut : u ≠ t := (ne_of_none (by rw [upd_ne htp]; exact g2) nu).symm
      refine ⟨_, rfl, p, CE, dx, _, rfl, (by rw [upd_ne hup.symm, upd_same]), W.cl, W.nC, (by show 2 < 1000; decide), ?_⟩
      rw [put3]
      generalize hH4 : upd (upd (upd H3 p _) u _) p _ = H4
      have kp4 : Kp p H H4 := by rw [← hH4]; exact ((g4.trans (Kp.upd _ _ _)).trans (Kp.of (Same.upd' nu))).trans (Kp.upd _ _ _)
      have q1 : H4 p = some (.ins CE dx (p3 wk t u)) := by rw [← hH4]; exact upd_same
      have q2 : H4 t = some (.tup ((pick ws S).map V.str)) := by rw [← hH4, upd_ne htp, upd_ne hut.symm, upd_ne htp]; exact g2
      have q3 : H4 u = some (.tup (nts (cutsL ws.length S))) := by rw [← hH4, upd_ne hup, upd_same]
      have q4 : H4 c = some (.lst (nts (cutsL ws.length S))) := by rw [← hH4, upd_ne hcp, upd_ne huc.symm, upd_ne hcp]; exact g3
      clear hH4
      have kw4 : WkAt CW H4 wk nm ws := kw.kpi kp4 hp hwp
      obtain ⟨dxw, tw, dw, o1, o2, o3⟩ := kw4.ob
      refine ⟨_, rfl, _, rfl, wk, dxw, _, rfl, o1, wk, nm, ws, rfl, kw4, ws.length, rfl, by have := hw.l1; omega, c, ws.length, S, rfl, q4, hw.l1, fun cs H5 ncs e5 hcs => ?_⟩
      refine ⟨cs, _, rfl, .inl ⟨SqL.of hcs, fun v nv => ?_⟩⟩
      have r1 := e5 _ _ q1
      have hvp : v ≠ p := (ne_of_none r1 nv).symm
      have hvt : v ≠ t := (ne_of_none (e5 _ _ q2) nv).symm
      have hvu : v ≠ u := (ne_of_none (e5 _ _ q3) nv).symm
      refine ⟨_, rfl, p, CE, dx, _, rfl, (by rw [upd_ne hvp.symm]; exact r1), W.cl, W.nN, (by show 3 < 1000; decide), ?_⟩
      rw [put4]
      have kp6 : Kp p H (upd (upd H5 v (.tup (nts (countsL ws.length S)))) p (.ins CE dx (edF wk t u v))) := ((kp4.trans (Kp.of e5)).trans (Kp.of (Same.upd' nv))).trans (Kp.upd _ _ _)
      refine k _ ⟨⟨dx, t, u, v, upd_same, ?_, ?_, ?_⟩, kw.kpi kp6 hp hwp⟩ kp6
      · rw [upd_ne htp, upd_ne hvt.symm]; exact e5 _ _ q2
      · rw [upd_ne hup, upd_ne hvu.symm]; exact e5 _ _ q3
      · rw [upd_ne hvp, upd_same]
    rcases hq with hq | hq
    · refine ⟨_, rfl, a, _, rfl, .inl ⟨SqL.of (kp2 _ _ hap hq), fun t nt => ?_⟩⟩
      have htp : t ≠ p := (ne_of_none hp2 nt).symm
      have htc : t ≠ c := (ne_of_none hc2 nt).symm
      refine ⟨_, rfl, p, CE, dx, _, rfl, (by rw [upd_ne htp.symm]; exact hp2), W.cl, W.nW, (by show 1 < 1000; decide), ?_⟩
      rw [put2]
      exact fin t _ (by rw [upd_ne htp.symm]; exact hp2) upd_same (by rw [upd_ne htc.symm]; exact hc2) (kp2.trans (Kp.of (Same.upd' nt))) htp
    · refine ⟨_, rfl, a, _, rfl, .inr ⟨SqT.of (kp2 _ _ hap hq), ?_⟩⟩
      refine ⟨_, rfl, p, CE, dx, _, rfl, hp2, W.cl, W.nW, (by show 1 < 1000; decide), ?_⟩
      rw [put2]
      exact fin a _ hp2 (kp2 _ _ hap hq) hc2 kp2 hap
end
end Lm

namespace Lm
open PySem L2
theorem nth_at {ws : List Str} {j : Nat} (h : j < ws.length) : ws[j]? = some (ws.getD j no) := by
  rw [List.getD_eq_getElem?_getD, List.getElem?_eq_getElem h]
  rfl
theorem pick_in {ws : List Str} {T : Nat → Bool} {j : Nat} (nd : ws.Nodup) (h : j < ws.length) : decide (ws.getD j no ∈ pick ws T) = T j := by
  by_cases hT : T j = true
  · rw [hT]
    exact decide_eq_true (List.mem_map.mpr ⟨j, idx_mem.mpr ⟨h, hT⟩, rfl⟩)
  · have : T j = false := by simpa using hT
    rw [this]
    refine decide_eq_false fun z => hT ?_
    obtain ⟨i, hi, e⟩ := List.mem_map.mp z
    have hi := idx_mem.mp hi
    have e1 := nth_at hi.1
    rw [show ws.getD i no = ws.getD j no from e] at e1
    have := nd_ix nd e1 (nth_at h)
    subst this
    exact hi.2
theorem pick_len (ws : List Str) (S : Nat → Bool) : (pick ws S).length = cnt S ws.length := by unfold pick cnt; rw [List.length_map]
theorem pick_congr {ws : List Str} {S T : Nat → Bool} (h : ∀ i < ws.length, S i = T i) : pick ws S = pick ws T := by
  unfold pick idx
  rw [List.filter_congr fun i hi => h i (List.mem_range.mp hi)]
theorem pick_at {ws : List Str} {S : Nat → Bool} {i j : Nat} (h : (idx ws.length S)[i]? = some j) : ((pick ws S).map V.str)[i]? = some (.str (ws.getD j no)) := by
  unfold pick
  rw [List.map_map, List.getElem?_map, h]
  rfl
theorem filter_and (N : Nat) (S T : Nat → Bool) : (idx N S).filter T = idx N fun i => S i && T i := by
  unfold idx
  rw [List.filter_filter]
  exact List.filter_congr fun i _ => Bool.and_comm _ _
section
variable {CW CE : Addr}
theorem mkEd {H : Hp} {wk a : Addr} {nm : Str} {ws : List Str} {S : Nat → Bool} {R : Addr → Hp → Prop} {E : XK} (kw : WkAt CW H wk nm ws) (hw : WOk ws) (hq : SeqAt H a ((pick ws S).map V.str)) (k : ∀ x H', H x = none → Same H H' → EdAt CW CE H' x wk nm ws S → R x H') :
    ∀ x dx, H x = none → H dx = none → dx ≠ x → spEdInit CW CE (.ref x :: ([.ref wk, .ref a] ++ [])) (upd (upd H dx (.own x)) x (.ins CE dx [])) (fun v H2 => v = .non ∧ R x H2) E := by
  intro x dx nx ndx nex
  have s0 : Same H (upd (upd H dx (.own x)) x (.ins CE dx [])) := fun b o e => by
    rw [upd_ne (ne_of_none e nx), upd_ne (ne_of_none e ndx)]
    exact e
  obtain ⟨dw, tw, ew, o1, _, _⟩ := id kw.ob
  refine ⟨x, dx, wk, a, nm, ws, S, rfl, upd_same, kw.same s0, hw, hq.elim (fun h => .inl (s0 _ _ h)) fun h => .inr (s0 _ _ h), ne_of_none o1 nx, fun H' he hk => ⟨rfl, k x H' nx (fun b o e => hk b o (ne_of_none e nx) (s0 b o e)) he⟩⟩
theorem mkWk {H : Hp} {a : Addr} {nm : Str} {ws : List Str} {R : Addr → Hp → Prop} {E : XK} (hn : isW nm = true) (hw : WOk ws) (hq : SeqAt H a (ws.map V.str)) (k : ∀ x H', H x = none → Same H H' → WkAt CW H' x nm ws → R x H') :
    ∀ x dx, H x = none → H dx = none → dx ≠ x → spWkInit CW (.ref x :: ([.str nm, .ref a] ++ [])) (upd (upd H dx (.own x)) x (.ins CW dx [])) (fun v H2 => v = .non ∧ R x H2) E := by
  intro x dx nx ndx nex
  have s0 : Same H (upd (upd H dx (.own x)) x (.ins CW dx [])) := fun b o e => by
    rw [upd_ne (ne_of_none e nx), upd_ne (ne_of_none e ndx)]
    exact e
  refine ⟨x, dx, a, nm, ws, rfl, upd_same, hq.elim (fun h => .inl (s0 _ _ h)) fun h => .inr (s0 _ _ h), hn, hw.ok, hw.l0, hw.l1, fun H' he hk => ⟨rfl, k x H' nx (fun b o e => hk b o (ne_of_none e nx) (s0 b o e)) he⟩⟩
end
section
variable {P : Program} {w : World} {K : PySem.W.Frag} {mg : Str → Option Value} {base : Heap} {f : Addr} {fd : FuncData}
theorem pick_all (ws : List Str) : pick ws (fun _ => true) = ws := by
  unfold pick idx
  rw [List.filter_eq_self.mpr fun _ _ => rfl]
  refine List.ext_getElem? fun i => ?_
  rw [List.getElem?_map]
  rcases Nat.lt_or_ge i ws.length with h | h
  · rw [List.getElem?_range h, nth_at h]
    rfl
  · rw [List.getElem?_eq_none (by simpa using h), List.getElem?_eq_none h]
    rfl
def spWhole (CW CE : Addr) : Sp := fun vs H Q _ => ∃ (wk : Addr) (nm : Str) (ws : List Str), vs = [.ref wk] ∧ WkAt CW H wk nm ws ∧ WOk ws ∧ ∀ p H', H p = none → Same H H' → EdAt CW CE H' p wk nm ws (fun _ => true) → Q (.ref p) H'
abbrev s_Work_whole : Stmt := inClass (top 16) 2
theorem sc_Work_whole : FnScope ["self"] ["self"] (defScope s_Work_whole) := ⟨rfl, rfl, rfl, by decide +kernel, rfl, by decide +kernel, by decide +kernel⟩
theorem ok_whole {CW CE fE : Addr} {fdE : FuncData} (F : Fun K "whole" "Work.whole" s_Work_whole f fd) (W : WkTxt K CW) (K_Edition : ClsOk P w K mg base 4 "Edition" CE fE fdE ["self", "work", "passages"] (spEdInit CW CE)) : FnOk P w K mg base CX0 6 f fd ["self"] (spWhole CW CE) := by
  refine F.ok sc_Work_whole (fun vs H Q E h => ?_) (fun cdv A outer s H vs Q E hr h => ?_)
  · obtain ⟨wk, nm, ws, rfl, _⟩ := h
    rfl
  · obtain ⟨wk, nm, ws, rfl, kw, hw, k⟩ := h
    obtain ⟨dx, t, d, h1, h2, h3⟩ := id kw.ob
    refine ⟨_, (pss_one (ps_ret (pe_mk K_Edition (hr.mono (by decide)) (pa_cons (pv 0) (pa_cons (pe_fld (pv 0) rfl) pa_nil))))), ?_⟩
    refine ⟨_, rfl, _, rfl, wk, CW, dx, _, _, rfl, h1, W.cl, W.nW, wk_words _ _ _, ?_⟩
    refine mkEd (S := fun _ => true) kw hw (.inr ?_) fun x H' nx e he => k x H' nx e he
    rw [pick_all]
    exact h2
def spEdLen (CW CE : Addr) : Sp := fun vs H Q _ => ∃ (a wk : Addr) (nm : Str) (ws : List Str) (S : Nat → Bool), vs = [.ref a] ∧ EdAt CW CE H a wk nm ws S ∧ Q (.int (cnt S ws.length : Nat)) H
abbrev s_Edition_len : Stmt := inClass (top 17) 6
theorem sc_Edition_len : FnScope ["self"] ["self"] (defScope s_Edition_len) := ⟨rfl, rfl, rfl, by decide +kernel, rfl, by decide +kernel, by decide +kernel⟩
theorem ok_ed_len {CW CE : Addr} (F : Fun K "__len__" "Edition.__len__" s_Edition_len f fd) (T : Blt mg) (W : EdTxt K CE) : FnOk P w K mg base CX0 1 f fd ["self"] (spEdLen CW CE) := by
  refine F.ok sc_Edition_len (fun vs H Q E h => ?_) (fun cdv A outer s H vs Q E hr h => ?_)
  · obtain ⟨a, wk, nm, ws, S, rfl, _⟩ := h
    rfl
  · obtain ⟨a, wk, nm, ws, S, rfl, ⟨⟨dx, t, u, v, h1, h2, h3, h4⟩, _⟩, k⟩ := h
    refine ⟨_, (pss_one (ps_ret (pe_callB call_len_seq (by rfl) T.b_len PySem.boot_len (pa_cons (pe_fld (pv 0) rfl) pa_nil)))), ?_⟩
    refine ⟨_, rfl, a, CE, dx, _, _, rfl, h1, W.cl, W.nW, ed_words _ _ _ _, t, _, rfl, .inr (SqT.of h2), ?_⟩
    rw [List.length_map, pick_len]
    exact k
def spEdIn (CW CE : Addr) : Sp := fun vs H Q _ => ∃ (a wk : Addr) (x nm : Str) (ws : List Str) (S : Nat → Bool), vs = [.ref a, .str x] ∧ EdAt CW CE H a wk nm ws S ∧ Q (.bl (decide (x ∈ pick ws S))) H
abbrev s_Edition_contains : Stmt := inClass (top 17) 7
theorem sc_Edition_contains : FnScope ["self", "x"] ["self", "x"] (defScope s_Edition_contains) := ⟨rfl, rfl, rfl, by decide +kernel, rfl, by decide +kernel, by decide +kernel⟩
theorem ok_ed_in {CW CE : Addr} (F : Fun K "__contains__" "Edition.__contains__" s_Edition_contains f fd) (T : Blt mg) (W : EdTxt K CE) : FnOk P w K mg base CX0 1 f fd ["self", "x"] (spEdIn CW CE) := by
  refine F.ok sc_Edition_contains (fun vs H Q E h => ?_) (fun cdv A outer s H vs Q E hr h => ?_)
  · obtain ⟨a, wk, x, nm, ws, S, rfl, _⟩ := h
    rfl
  · obtain ⟨a, wk, x, nm, ws, S, rfl, ⟨⟨dx, t, u, v, h1, h2, h3, h4⟩, _⟩, k⟩ := h
    refine ⟨_, (pss_one (ps_ret (pe_and (pe_callB call_isi (by rfl) T.b_isinstance (by decide +kernel) (pa_cons (pv 1) (pa_cons (pe_bltn (v := .ty "str") (u := .type "str") (by rfl) T.b_str (by decide +kernel) rfl) pa_nil))) (pe_one (pe_cmpR op_in_seq (pv 1) (pe_fld (pv 0) rfl) (by rfl)))))), ?_⟩
    refine ⟨_, rfl, _, _, _, _, true, rfl, .ty _, .base (.str x), kit_ty (by decide +kernel), true, rfl, ?_⟩
    refine ⟨_, rfl, _, rfl, a, CE, dx, _, _, rfl, h1, W.cl, W.nW, ed_words _ _ _ _, t, _, rfl, .inr (SqT.of h2), rfl, strs_flat _, ?_⟩
    have e := strs_in (pick ws S) x
    rw [← e] at k
    exact k
def spReqCount (CW CE : Addr) : Sp := fun vs H Q _ => ∃ (a wk : Addr) (n : Nat) (nm : Str) (ws : List Str) (S : Nat → Bool), vs = [.int n, .ref a] ∧ EdAt CW CE H a wk nm ws S ∧ ws.length ≤ 60 ∧ n ≤ cnt S ws.length ∧ Q .non H
abbrev s_require_count : Stmt := top 20
theorem sc_require_count : FnScope ["count", "edition"] ["count", "edition"] (defScope s_require_count) := ⟨rfl, rfl, rfl, by decide +kernel, rfl, by decide +kernel, by decide +kernel⟩
theorem cnt_le (S : Nat → Bool) (N : Nat) : cnt S N ≤ N := idx_len N S
theorem ok_req_count {CW CE fU fL : Addr} {fdU fdL : FuncData} (F : Fun K "require_count" "require_count" s_require_count f fd) (T : Blt mg) (D_is_up_to : DefOk P w K mg base 2 "is_up_to" fU fdU ["x", "most"] spUpTo) (M_Edition_len : MetOk P w K mg base 1 CE "__len__" fL fdL ["self"] (spEdLen CW CE)) :
    FnOk P w K mg base CX0 3 f fd ["count", "edition"] (spReqCount CW CE) := by
  refine F.ok sc_require_count (fun vs H Q E h => ?_) (fun cdv A outer s H vs Q E hr h => ?_)
  · obtain ⟨a, wk, n, nm, ws, S, rfl, _⟩ := h
    rfl
  · obtain ⟨a, wk, n, nm, ws, S, rfl, he, l1, hn, k⟩ := h
    obtain ⟨dx, t, u, v, h1, h2, h3, h4⟩ := id he.ob
    have hc := cnt_le S ws.length
    refine ⟨_, (pss_one (ps_if (pt_not (pt_val (pe_d D_is_up_to (hr.mono (by decide)) (pa_cons (pv 0) (pa_cons (pe_callB (M_Edition_len.len (hr.mono (by decide))) (by rfl) T.b_len PySem.boot_len (pa_cons (pv 1) pa_nil)) pa_nil))))) (pss_one ps_never) pss_nil)), ?_⟩
    refine ⟨_, rfl, _, rfl, a, dx, _, rfl, h1, a, wk, nm, ws, S, rfl, he, cnt S ws.length, rfl, by omega, _, _, rfl, _, rfl, ?_⟩
    rw [decide_eq_true (show (0 : Int) ≤ (n : Int) ∧ (n : Int) ≤ (cnt S ws.length : Nat) from ⟨by omega, by omega⟩)]
    exact k
def spReqCut (CW : Addr) : Sp := fun vs H Q _ => ∃ (wk : Addr) (n : Nat) (nm : Str) (ws : List Str), vs = [.int n, .ref wk] ∧ WkAt CW H wk nm ws ∧ ws.length ≤ 60 ∧ n ≤ ws.length ∧ Q .non H
abbrev s_require_cut : Stmt := top 21
theorem sc_require_cut : FnScope ["cut", "work"] ["cut", "work"] (defScope s_require_cut) := ⟨rfl, rfl, rfl, by decide +kernel, rfl, by decide +kernel, by decide +kernel⟩
theorem ok_req_cut {CW fU fL : Addr} {fdU fdL : FuncData} (F : Fun K "require_cut" "require_cut" s_require_cut f fd) (T : Blt mg) (D_is_up_to : DefOk P w K mg base 2 "is_up_to" fU fdU ["x", "most"] spUpTo) (M_Work_len : MetOk P w K mg base 1 CW "__len__" fL fdL ["self"] (spWkLen CW)) :
    FnOk P w K mg base CX0 3 f fd ["cut", "work"] (spReqCut CW) := by
  refine F.ok sc_require_cut (fun vs H Q E h => ?_) (fun cdv A outer s H vs Q E hr h => ?_)
  · obtain ⟨wk, n, nm, ws, rfl, _⟩ := h
    rfl
  · obtain ⟨wk, n, nm, ws, rfl, kw, l1, hn, k⟩ := h
    obtain ⟨dx, t, d, h1, h2, h3⟩ := id kw.ob
    refine ⟨_, (pss_one (ps_if (pt_not (pt_val (pe_d D_is_up_to (hr.mono (by decide)) (pa_cons (pv 0) (pa_cons (pe_callB (M_Work_len.len (hr.mono (by decide))) (by rfl) T.b_len PySem.boot_len (pa_cons (pv 1) pa_nil)) pa_nil))))) (pss_one ps_never) pss_nil)), ?_⟩
    refine ⟨_, rfl, _, rfl, wk, dx, _, rfl, h1, wk, nm, ws, rfl, kw, ws.length, rfl, by omega, _, _, rfl, _, rfl, ?_⟩
    rw [decide_eq_true (show (0 : Int) ≤ (n : Int) ∧ (n : Int) ≤ (ws.length : Nat) from ⟨by omega, by omega⟩)]
    exact k
def spCutB (CW CE : Addr) : Sp := fun vs H Q _ => ∃ (a wk : Addr) (n x : Nat) (nm : Str) (ws : List Str) (S : Nat → Bool), vs = [.ref a, .int n] ∧ EdAt CW CE H a wk nm ws S ∧ ws.length ≤ 60 ∧ (cutsL ws.length S)[n]? = some x ∧ Q (.int x) H
abbrev s_Edition_cut_behind : Stmt := inClass (top 17) 2
theorem sc_Edition_cut_behind : FnScope ["self", "count"] ["self", "count"] (defScope s_Edition_cut_behind) := ⟨rfl, rfl, rfl, by decide +kernel, rfl, by decide +kernel, by decide +kernel⟩
theorem ok_cutb {CW CE fR : Addr} {fdR : FuncData} (F : Fun K "cut_behind" "Edition.cut_behind" s_Edition_cut_behind f fd) (W : EdTxt K CE) (D_require_count : DefOk P w K mg base 3 "require_count" fR fdR ["count", "edition"] (spReqCount CW CE)) :
    FnOk P w K mg base CX0 4 f fd ["self", "count"] (spCutB CW CE) := by
  refine F.ok sc_Edition_cut_behind (fun vs H Q E h => ?_) (fun cdv A outer s H vs Q E hr h => ?_)
  · obtain ⟨a, wk, n, x, nm, ws, S, rfl, _⟩ := h
    rfl
  · obtain ⟨a, wk, n, x, nm, ws, S, rfl, he, l1, hx, k⟩ := h
    obtain ⟨dx, t, u, v, h1, h2, h3, h4⟩ := id he.ob
    have hn : n ≤ cnt S ws.length := by
      have := (List.getElem?_eq_some_iff.mp hx).1
      rw [cutsL_len] at this
      omega
    refine ⟨_, (pss_cons (ps_expr (pe_d D_require_count (hr.mono (by decide)) (pa_cons (pv 1) (pa_cons (pv 0) pa_nil))))
        (pss_one (ps_ret (pe_ix ix_tup (pe_fld (pv 0) rfl) (pv 1) (fun _ _ => rfl))))), ?_⟩
    refine ⟨_, rfl, _, rfl, a, wk, n, nm, ws, S, rfl, he, l1, hn, ?_⟩
    exact ⟨_, rfl, a, CE, dx, _, _, rfl, h1, W.cl, W.nC, ed_cuts _ _ _ _, _, rfl, u, _, _, _, rfl, rfl, SqT.of h3, atI_nat (nts_at hx), k⟩
def spCountAt (CW CE : Addr) : Sp := fun vs H Q _ => ∃ (a wk : Addr) (c : Nat) (nm : Str) (ws : List Str) (S : Nat → Bool), vs = [.ref a, .int c] ∧ EdAt CW CE H a wk nm ws S ∧ ws.length ≤ 60 ∧ c ≤ ws.length ∧ Q (.int (cnt S c : Nat)) H
abbrev s_Edition_count_at : Stmt := inClass (top 17) 3
theorem sc_Edition_count_at : FnScope ["self", "cut"] ["self", "cut"] (defScope s_Edition_count_at) := ⟨rfl, rfl, rfl, by decide +kernel, rfl, by decide +kernel, by decide +kernel⟩
theorem ok_count_at {CW CE fR : Addr} {fdR : FuncData} (F : Fun K "count_at" "Edition.count_at" s_Edition_count_at f fd) (W : EdTxt K CE) (D_require_cut : DefOk P w K mg base 3 "require_cut" fR fdR ["cut", "work"] (spReqCut CW)) :
    FnOk P w K mg base CX0 4 f fd ["self", "cut"] (spCountAt CW CE) := by
  refine F.ok sc_Edition_count_at (fun vs H Q E h => ?_) (fun cdv A outer s H vs Q E hr h => ?_)
  · obtain ⟨a, wk, c, nm, ws, S, rfl, _⟩ := h
    rfl
  · obtain ⟨a, wk, c, nm, ws, S, rfl, he, l1, hc, k⟩ := h
    obtain ⟨dx, t, u, v, h1, h2, h3, h4⟩ := id he.ob
    refine ⟨_, (pss_cons (ps_expr (pe_d D_require_cut (hr.mono (by decide)) (pa_cons (pv 1) (pa_cons (pe_fld (pv 0) rfl) pa_nil))))
        (pss_one (ps_ret (pe_ix ix_tup (pe_fld (pv 0) rfl) (pv 1) (fun _ _ => rfl))))), ?_⟩
    refine ⟨_, rfl, _, rfl, a, CE, dx, _, _, rfl, h1, W.cl, W.nK, ed_work _ _ _ _, wk, c, nm, ws, rfl, he.wk, l1, hc, ?_⟩
    exact ⟨_, rfl, a, CE, dx, _, _, rfl, h1, W.cl, W.nN, ed_counts _ _ _ _, _, rfl, v, _, _, _, rfl, rfl, SqT.of h4, atI_nat (nts_at (counts_at' S hc)), k⟩
def spKernel (CW CE : Addr) : Sp := fun vs H Q _ => ∃ (a wk : Addr) (c : Nat) (nm : Str) (ws : List Str) (S : Nat → Bool), vs = [.ref a, .int c] ∧ EdAt CW CE H a wk nm ws S ∧ ws.length ≤ 60 ∧ c ≤ ws.length ∧ Q (.int (ker S c : Nat)) H
abbrev s_Edition_kernel : Stmt := inClass (top 17) 4
theorem sc_Edition_kernel : FnScope ["self", "cut"] ["self", "cut"] (defScope s_Edition_kernel) := ⟨rfl, rfl, rfl, by decide +kernel, rfl, by decide +kernel, by decide +kernel⟩
theorem ok_kernel {CW CE fB fA : Addr} {fdB fdA : FuncData} (F : Fun K "kernel" "Edition.kernel" s_Edition_kernel f fd) (M_Edition_cut_behind : MetOk P w K mg base 4 CE "cut_behind" fB fdB ["self", "count"] (spCutB CW CE)) (M_Edition_count_at : MetOk P w K mg base 4 CE "count_at" fA fdA ["self", "cut"] (spCountAt CW CE)) :
    FnOk P w K mg base CX0 5 f fd ["self", "cut"] (spKernel CW CE) := by
  refine F.ok sc_Edition_kernel (fun vs H Q E h => ?_) (fun cdv A outer s H vs Q E hr h => ?_)
  · obtain ⟨a, wk, c, nm, ws, S, rfl, _⟩ := h
    rfl
  · obtain ⟨a, wk, c, nm, ws, S, rfl, he, l1, hc, k⟩ := h
    obtain ⟨dx, t, u, v, h1, h2, h3, h4⟩ := id he.ob
    refine ⟨_, (pss_one (ps_ret (pe_m M_Edition_cut_behind (hr.mono (by decide)) (pv 0) (pa_cons (pe_m M_Edition_count_at (hr.mono (by decide)) (pv 0) (pa_cons (pv 1) pa_nil)) pa_nil)))), ?_⟩
    refine ⟨_, rfl, a, dx, _, rfl, h1, ed_no _ _ _ _ (by decide +kernel) (by decide +kernel) (by decide +kernel) (by decide +kernel), _, rfl, a, dx, _, rfl, h1, ed_no _ _ _ _ (by decide +kernel) (by decide +kernel) (by decide +kernel) (by decide +kernel), _, rfl, a, wk, c, nm, ws, S, rfl, he, l1, hc, ?_⟩
    exact ⟨a, wk, _, _, nm, ws, S, rfl, he, l1, cuts_at S hc, k⟩
end
end Lm

namespace Lm
open PySem L2
theorem EdAt.congr {CW CE : Addr} {H : Hp} {a wk : Addr} {nm : Str} {ws : List Str} {S T : Nat → Bool} (k : EdAt CW CE H a wk nm ws S) (h : ∀ i < ws.length, S i = T i) : EdAt CW CE H a wk nm ws T := by
  obtain ⟨⟨dx, t, u, v, h1, h2, h3, h4⟩, h5⟩ := k
  have e : ∀ c ≤ ws.length, idx c S = idx c T := fun c hc => List.filter_congr fun i hi => h i (by have := List.mem_range.mp hi; omega)
  have e1 : cutsL ws.length S = cutsL ws.length T := by unfold cutsL; rw [e _ (Nat.le_refl _)]
  have e2 : countsL ws.length S = countsL ws.length T := by
    unfold countsL
    refine List.map_congr_left fun c hc => ?_
    have := List.mem_range.mp hc
    unfold cnt
    rw [e c (by omega)]
  exact ⟨⟨dx, t, u, v, h1, by rw [← pick_congr h]; exact h2, by rw [← e1]; exact h3, by rw [← e2]; exact h4⟩, h5⟩
section
variable {P : Program} {w : World} {K : PySem.W.Frag} {mg : Str → Option Value} {base : Heap} {f : Addr} {fd : FuncData}
structure WkNe (K : PySem.W.Frag) (C : Addr) : Prop where
  ne_Work : PySem.W.findIn K (.ref C) "__ne__" = some (some (.builtin "object.__ne__"))
  ob_Work : PySem.W.subIn K (.ref C) (.type "object") = some true
def spOneW (CW CE : Addr) : Sp := fun vs H Q _ => ∃ (a b wk wk' : Addr) (nm : Str) (ws : List Str) (S T : Nat → Bool), vs = [.ref a, .ref b] ∧ EdAt CW CE H a wk nm ws S ∧ EdAt CW CE H b wk' nm ws T ∧ WOk ws ∧ Q .non H
abbrev s_require_one_work : Stmt := top 22
theorem sc_require_one_work : FnScope ["one", "other"] ["one", "other"] (defScope s_require_one_work) := ⟨rfl, rfl, rfl, by decide +kernel, rfl, by decide +kernel, by decide +kernel⟩
theorem ok_onew {CW CE fE : Addr} {fdE : FuncData} (F : Fun K "require_one_work" "require_one_work" s_require_one_work f fd) (W : EdTxt K CE) (T : WkNe K CW) (M_Work_eq : MetOk P w K mg base 1 CW "__eq__" fE fdE ["self", "other"] (spWkEq CW)) :
    FnOk P w K mg base CX0 3 f fd ["one", "other"] (spOneW CW CE) := by
  refine F.ok sc_require_one_work (fun vs H Q E h => ?_) (fun cdv A outer s H vs Q E hr h => ?_)
  · obtain ⟨a, b, wk, wk', nm, ws, S, U, rfl, _⟩ := h
    rfl
  · obtain ⟨a, b, wk, wk', nm, ws, S, U, rfl, he, hf, hw, k⟩ := h
    obtain ⟨dx, t, u, v, h1, h2, h3, h4⟩ := id he.ob
    obtain ⟨dy, t', u', v', g1, g2, g3, g4⟩ := id hf.ob
    obtain ⟨dw, tw, ew, o1, _, _⟩ := id he.wk.ob
    obtain ⟨dw', tw', ew', o1', _, _⟩ := id hf.wk.ob
    refine ⟨_, (pss_one (ps_if (pt_cmpR (M_Work_eq.ne T.ne_Work T.ob_Work (hr.mono (by decide))) (pe_fld (pv 0) rfl) (pe_fld (pv 1) rfl) (nomark _)) (pss_one ps_never) pss_nil)), ?_⟩
    refine ⟨_, rfl, a, CE, dx, _, _, rfl, h1, W.cl, W.nK, ed_work _ _ _ _, _, rfl, b, CE, dy, _, _, rfl, g1, W.cl, W.nK, ed_work _ _ _ _, ?_⟩
    refine ⟨wk, dw, _, wk', dw', _, rfl, rfl, o1, o1', wk, wk', nm, nm, ws, ws, rfl, he.wk, hf.wk, hw.ok.wd, hw.ok.wd, ?_⟩
    rw [decide_eq_true (show nm = nm ∧ ws = ws from ⟨rfl, rfl⟩)]
    exact ⟨true, rfl, _, rfl, k⟩
/-- both editions are of equal works; what is made is of the first one's -/
def spJoin (CW CE : Addr) (op : Bool → Bool → Bool) : Sp := fun vs H Q _ => ∃ (a b wk wk' : Addr) (nm : Str) (ws : List Str) (S T : Nat → Bool), vs = [.ref a, .ref b] ∧ EdAt CW CE H a wk nm ws S ∧ EdAt CW CE H b wk' nm ws T ∧ WOk ws ∧
  ∀ p H', H p = none → Same H H' → EdAt CW CE H' p wk nm ws (fun i => op (S i) (T i)) → Q (.ref p) H'
abbrev s_Edition_and : Stmt := inClass (top 17) 8
theorem sc_Edition_and : FnScope ["self", "other", "word"] ["self", "other"] (defScope s_Edition_and) := ⟨rfl, rfl, rfl, by decide +kernel, rfl, by decide +kernel, by decide +kernel⟩
theorem ok_and {CW CE fO fE : Addr} {fdO fdE : FuncData} (F : Fun K "__and__" "Edition.__and__" s_Edition_and f fd) (W : EdTxt K CE) (D_require_one_work : DefOk P w K mg base 3 "require_one_work" fO fdO ["one", "other"] (spOneW CW CE))
    (K_Edition : ClsOk P w K mg base 4 "Edition" CE fE fdE ["self", "work", "passages"] (spEdInit CW CE)) : FnOk P w K mg base CX0 6 f fd ["self", "other"] (spJoin CW CE fun a b => a && b) := by
  refine F.ok sc_Edition_and (fun vs H Q E h => ?_) (fun cdv A outer s H vs Q E hr h => ?_)
  · obtain ⟨a, b, wk, wk', nm, ws, S, U, rfl, _⟩ := h
    rfl
  · obtain ⟨a, b, wk, wk', nm, ws, S, U, rfl, he, hf, hw, k⟩ := h
    obtain ⟨dx, t, u, v, h1, h2, h3, h4⟩ := id he.ob
    obtain ⟨dy, t', u', v', g1, g2, g3, g4⟩ := id hf.ob
    refine ⟨_, (pss_cons (ps_expr (pe_d D_require_one_work (hr.mono (by decide)) (pa_cons (pv 0) (pa_cons (pv 1) pa_nil))))
        (pss_one (ps_ret (pe_mk K_Edition (hr.mono (by decide)) (by exact (pa_cons (pe_fld (pv 0) rfl) (pa_cons (pe_lc (own := [("word", 2)]) (g := gName 2) (tt := (tTest (tOp (rIn K false) (tVar 2) (tFld K (tVar 1) "words")))) (te := (tVar 2)) rfl sc_Edition_and.nd (pi_tup (pe_fld (pv 0) rfl)) (blkOk_by (own := [("word", 2)]) (by kernel_rfl)) (fun _ _ _ _ _ => (pg_name (i := 2) sc_Edition_and.nd rfl (by first | exact Or.inl rfl | exact Or.inr rfl))) (fun _ _ _ _ _ => by exact (pts_one (pt_cmpR op_in_seq (pv 2) (pe_fld (pv 1) rfl) (by rfl)))) (fun _ _ _ _ _ => by exact (pv 2))) pa_nil))))))), ?_⟩
    refine ⟨_, rfl, _, rfl, a, b, wk, wk', nm, ws, S, U, rfl, he, hf, hw, ?_⟩
    refine ⟨_, rfl, a, CE, dx, _, _, rfl, h1, W.cl, W.nK, ed_work _ _ _ _, ?_⟩
    refine ⟨_, rfl, a, CE, dx, _, _, rfl, h1, W.cl, W.nW, ed_words _ _ _ _, t, rfl, ⟨_, SqT.of h2⟩, fun D nD => ?_⟩
    refine lc_tup (K := K) (a := t) (xs := (pick ws S).map V.str) (fun i H' => Same H H' ∧ H' D = some (.lst ((((idx ws.length S).take i).filter U).map fun j => V.str (ws.getD j no)))) ⟨Same.upd' nD, upd_same⟩ (fun i H' _ p => SqT.of (p.1 _ _ h2)) ?_ ?_
    · rintro i x H' hx ⟨e, hD⟩
      have hi : i < (idx ws.length S).length := by
        have := (List.getElem?_eq_some_iff.mp hx).1
        unfold pick at this
        simpa using this
      obtain ⟨j, hj⟩ : ∃ j, (idx ws.length S)[i]? = some j := ⟨_, List.getElem?_eq_getElem hi⟩
      have hjm := idx_mem.mp (List.mem_of_getElem? hj)
      rw [pick_at hj] at hx
      cases (Option.some.inj hx)
      refine ⟨rfl, _, rfl, _, rfl, b, CE, dy, _, _, rfl, e _ _ g1, W.cl, W.nW, ed_words _ _ _ _, t', _, rfl, .inr (SqT.of (e _ _ g2)), rfl, strs_flat _, _, rfl, ?_⟩
      show if inV (.str (ws.getD j no)) ((pick ws U).map V.str) = true then _ else _
      rw [strs_in, pick_in hw.ok.nd hjm.1]
      have hlen : (((idx ws.length S).take i).filter U).length ≤ 60 := Nat.le_trans (List.length_filter_le _ _) (Nat.le_trans (by simp; omega) (Nat.le_trans (idx_len ws.length S) hw.l1))
      refine ite2 (fun hU => ?_) (fun hU => ?_)
      · refine ⟨_, rfl, _, hD, small1000 (by rw [List.length_map]; omega), Same.mut e nD, ?_⟩
        rw [upd_same, List.take_succ, hj]
        simp [hU]
      · refine ⟨e, ?_⟩
        rw [hD, List.take_succ, hj]
        simp [hU]
    · rintro H' ⟨e, hD⟩
      have hl : ((pick ws S).map V.str).length = (idx ws.length S).length := by rw [List.length_map]; unfold pick; rw [List.length_map]
      rw [hl, List.take_length, filter_and] at hD
      refine mkEd (S := fun i => S i && U i) (he.wk.same e) hw (.inl ?_) fun x H2 nx e2 hx => k x H2 (Same.free e nx) (Same.trans e e2) hx
      rw [hD]
      unfold pick
      rw [List.map_map]
      rfl
abbrev s_Edition_sub : Stmt := inClass (top 17) 10
theorem sc_Edition_sub : FnScope ["self", "other", "word"] ["self", "other"] (defScope s_Edition_sub) := ⟨rfl, rfl, rfl, by decide +kernel, rfl, by decide +kernel, by decide +kernel⟩
theorem ok_sub {CW CE fO fE : Addr} {fdO fdE : FuncData} (F : Fun K "__sub__" "Edition.__sub__" s_Edition_sub f fd) (W : EdTxt K CE) (D_require_one_work : DefOk P w K mg base 3 "require_one_work" fO fdO ["one", "other"] (spOneW CW CE))
    (K_Edition : ClsOk P w K mg base 4 "Edition" CE fE fdE ["self", "work", "passages"] (spEdInit CW CE)) : FnOk P w K mg base CX0 6 f fd ["self", "other"] (spJoin CW CE fun a b => a && !b) := by
  refine F.ok sc_Edition_sub (fun vs H Q E h => ?_) (fun cdv A outer s H vs Q E hr h => ?_)
  · obtain ⟨a, b, wk, wk', nm, ws, S, U, rfl, _⟩ := h
    rfl
  · obtain ⟨a, b, wk, wk', nm, ws, S, U, rfl, he, hf, hw, k⟩ := h
    obtain ⟨dx, t, u, v, h1, h2, h3, h4⟩ := id he.ob
    obtain ⟨dy, t', u', v', g1, g2, g3, g4⟩ := id hf.ob
    refine ⟨_, (pss_cons (ps_expr (pe_d D_require_one_work (hr.mono (by decide)) (pa_cons (pv 0) (pa_cons (pv 1) pa_nil))))
        (pss_one (ps_ret (pe_mk K_Edition (hr.mono (by decide)) (by exact (pa_cons (pe_fld (pv 0) rfl) (pa_cons (pe_lc (own := [("word", 2)]) (g := gName 2) (tt := (tTest (tOp (rIn K true) (tVar 2) (tFld K (tVar 1) "words")))) (te := (tVar 2)) rfl sc_Edition_sub.nd (pi_tup (pe_fld (pv 0) rfl)) (blkOk_by (own := [("word", 2)]) (by kernel_rfl)) (fun _ _ _ _ _ => (pg_name (i := 2) sc_Edition_sub.nd rfl (by first | exact Or.inl rfl | exact Or.inr rfl))) (fun _ _ _ _ _ => by exact (pts_one (pt_cmpR op_notIn_seq (pv 2) (pe_fld (pv 1) rfl) (by rfl)))) (fun _ _ _ _ _ => by exact (pv 2))) pa_nil))))))), ?_⟩
    refine ⟨_, rfl, _, rfl, a, b, wk, wk', nm, ws, S, U, rfl, he, hf, hw, ?_⟩
    refine ⟨_, rfl, a, CE, dx, _, _, rfl, h1, W.cl, W.nK, ed_work _ _ _ _, ?_⟩
    refine ⟨_, rfl, a, CE, dx, _, _, rfl, h1, W.cl, W.nW, ed_words _ _ _ _, t, rfl, ⟨_, SqT.of h2⟩, fun D nD => ?_⟩
    refine lc_tup (K := K) (a := t) (xs := (pick ws S).map V.str) (fun i H' => Same H H' ∧ H' D = some (.lst ((((idx ws.length S).take i).filter fun j => !U j).map fun j => V.str (ws.getD j no)))) ⟨Same.upd' nD, upd_same⟩ (fun i H' _ p => SqT.of (p.1 _ _ h2)) ?_ ?_
    · rintro i x H' hx ⟨e, hD⟩
      have hi : i < (idx ws.length S).length := by
        have := (List.getElem?_eq_some_iff.mp hx).1
        unfold pick at this
        simpa using this
      obtain ⟨j, hj⟩ : ∃ j, (idx ws.length S)[i]? = some j := ⟨_, List.getElem?_eq_getElem hi⟩
      have hjm := idx_mem.mp (List.mem_of_getElem? hj)
      rw [pick_at hj] at hx
      cases (Option.some.inj hx)
      refine ⟨rfl, _, rfl, _, rfl, b, CE, dy, _, _, rfl, e _ _ g1, W.cl, W.nW, ed_words _ _ _ _, t', _, rfl, .inr (SqT.of (e _ _ g2)), rfl, strs_flat _, _, rfl, ?_⟩
      show if (!inV (.str (ws.getD j no)) ((pick ws U).map V.str)) = true then _ else _
      rw [strs_in, pick_in hw.ok.nd hjm.1]
      have hlen : (((idx ws.length S).take i).filter fun j => !U j).length ≤ 60 := Nat.le_trans (List.length_filter_le _ _) (Nat.le_trans (by simp; omega) (Nat.le_trans (idx_len ws.length S) hw.l1))
      refine ite2 (fun hU => ?_) (fun hU => ?_)
      · refine ⟨_, rfl, _, hD, small1000 (by rw [List.length_map]; omega), Same.mut e nD, ?_⟩
        have hU : U j = false := by simpa using hU
        rw [upd_same, List.take_succ, hj]
        simp [hU]
      · refine ⟨e, ?_⟩
        have hU : U j = true := by simpa using hU
        rw [hD, List.take_succ, hj]
        simp [hU]
    · rintro H' ⟨e, hD⟩
      have hl : ((pick ws S).map V.str).length = (idx ws.length S).length := by rw [List.length_map]; unfold pick; rw [List.length_map]
      rw [hl, List.take_length, filter_and] at hD
      refine mkEd (S := fun i => S i && !U i) (he.wk.same e) hw (.inl ?_) fun x H2 nx e2 hx => k x H2 (Same.free e nx) (Same.trans e e2) hx
      rw [hD]
      unfold pick
      rw [List.map_map]
      rfl
abbrev s_Edition_or : Stmt := inClass (top 17) 9
theorem sc_Edition_or : FnScope ["self", "other", "either", "word"] ["self", "other"] (defScope s_Edition_or) := ⟨rfl, rfl, rfl, by decide +kernel, rfl, by decide +kernel, by decide +kernel⟩
theorem ok_or {CW CE fO fE : Addr} {fdO fdE : FuncData} (F : Fun K "__or__" "Edition.__or__" s_Edition_or f fd) (W : EdTxt K CE) (W' : WkTxt K CW) (D_require_one_work : DefOk P w K mg base 3 "require_one_work" fO fdO ["one", "other"] (spOneW CW CE))
    (K_Edition : ClsOk P w K mg base 4 "Edition" CE fE fdE ["self", "work", "passages"] (spEdInit CW CE)) : FnOk P w K mg base CX0 6 f fd ["self", "other"] (spJoin CW CE fun a b => a || b) := by
  refine F.ok sc_Edition_or (fun vs H Q E h => ?_) (fun cdv A outer s H vs Q E hr h => ?_)
  · obtain ⟨a, b, wk, wk', nm, ws, S, U, rfl, _⟩ := h
    rfl
  · obtain ⟨a, b, wk, wk', nm, ws, S, U, rfl, he, hf, hw, k⟩ := h
    obtain ⟨dx, t, u, v, h1, h2, h3, h4⟩ := id he.ob
    obtain ⟨dy, t', u', v', g1, g2, g3, g4⟩ := id hf.ob
    obtain ⟨dw, tw, ew, o1, o2, o3⟩ := id he.wk.ob
    refine ⟨_, (pss_cons (ps_expr (pe_d D_require_one_work (hr.mono (by decide)) (pa_cons (pv 0) (pa_cons (pv 1) pa_nil))))
        (pss_cons (ps_setLc (i := 2) (own := [("word", 3)]) (g := gName 3) (tt := (tOr (tTest (tOp (rIn K false) (tVar 3) (tFld K (tVar 0) "words"))) (tTest (tOp (rIn K false) (tVar 3) (tFld K (tVar 1) "words"))))) (te := (tVar 3)) rfl sc_Edition_or.nd rfl rfl (sw_true rfl rfl rfl (by decide +kernel)) (pi_tup (pe_fld (pe_fld (pv 0) rfl) rfl)) (blkOk_by (own := [("word", 3)]) (by kernel_rfl)) (fun _ _ _ _ _ => (pg_name (i := 3) sc_Edition_or.nd rfl (by first | exact Or.inl rfl | exact Or.inr rfl))) (fun _ _ _ _ _ => by exact (pts_one (PW.pt (pw_or (pt_cmpR op_in_seq (pv 3) (pe_fld (pv 0) rfl) (by rfl)) (pw_or1 (pt_cmpR op_in_seq (pv 3) (pe_fld (pv 1) rfl) (by rfl))))))) (fun _ _ _ _ _ => by exact (pv 3)))
        (pss_one (ps_ret (pe_mk K_Edition (hr.mono (by decide)) (pa_cons (pe_fld (pv 0) rfl) (pa_cons (pv 2) pa_nil))))))), ?_⟩
    refine ⟨_, rfl, _, rfl, a, b, wk, wk', nm, ws, S, U, rfl, he, hf, hw, ?_⟩
    refine ⟨_, rfl, a, CE, dx, _, _, rfl, h1, W.cl, W.nK, ed_work _ _ _ _, wk, CW, dw, _, _, rfl, o1, W'.cl, W'.nW, wk_words _ _ _, tw, rfl, ⟨_, SqT.of o2⟩, fun D nD => ?_⟩
    refine lc_tup (K := K) (a := tw) (xs := ws.map V.str) (fun i H' => Same H H' ∧ H' D = some (.lst (((List.range i).filter fun j => S j || U j).map fun j => V.str (ws.getD j no)))) ⟨Same.upd' nD, upd_same⟩ (fun i H' _ p => SqT.of (p.1 _ _ o2)) ?_ ?_
    · rintro i x H' hx ⟨e, hD⟩
      have hi : i < ws.length := by
        have := (List.getElem?_eq_some_iff.mp hx).1
        simpa using this
      rw [List.getElem?_map, nth_at hi] at hx
      cases (Option.some.inj hx)
      have hlen : ((List.range i).filter fun j => S j || U j).length ≤ 60 := Nat.le_trans (List.length_filter_le _ _) (by have := hw.l1; simp; omega)
      have no_ : (S i || U i) = false → Same H H' ∧ H' D = some (.lst (((List.range (i + 1)).filter fun j => S j || U j).map fun j => V.str (ws.getD j no))) := fun hb => ⟨e, by rw [hD, List.range_succ, List.filter_append]; simp [hb]⟩
      have yes_ : (S i || U i) = true → Same H (upd H' D (.lst ((((List.range i).filter fun j => S j || U j).map fun j => V.str (ws.getD j no)) ++ [.str (ws.getD i no)]))) ∧ (upd H' D (.lst ((((List.range i).filter fun j => S j || U j).map fun j => V.str (ws.getD j no)) ++ [.str (ws.getD i no)]))) D = some (.lst (((List.range (i + 1)).filter fun j => S j || U j).map fun j => V.str (ws.getD j no))) :=
        fun hb => ⟨Same.mut e nD, by rw [upd_same, List.range_succ, List.filter_append]; simp [hb]⟩
      refine ⟨rfl, _, rfl, _, rfl, a, CE, dx, _, _, rfl, e _ _ h1, W.cl, W.nW, ed_words _ _ _ _, t, _, rfl, .inr (SqT.of (e _ _ h2)), rfl, strs_flat _, _, rfl, ?_⟩
      show if inV (.str (ws.getD i no)) ((pick ws S).map V.str) = true then _ else _
      rw [strs_in, pick_in hw.ok.nd hi]
      refine ite2 (fun hS => ?_) (fun hS => ?_)
      · exact ⟨_, rfl, _, hD, small1000 (by rw [List.length_map]; omega), yes_ (by simp [hS])⟩
      · refine ⟨_, rfl, _, rfl, b, CE, dy, _, _, rfl, e _ _ g1, W.cl, W.nW, ed_words _ _ _ _, t', _, rfl, .inr (SqT.of (e _ _ g2)), rfl, strs_flat _, _, rfl, ?_⟩
        show if inV (.str (ws.getD i no)) ((pick ws U).map V.str) = true then _ else _
        rw [strs_in, pick_in hw.ok.nd hi]
        refine ite2 (fun hU => ?_) (fun hU => ?_)
        · exact ⟨_, rfl, _, hD, small1000 (by rw [List.length_map]; omega), yes_ (by simp [hU])⟩
        · exact no_ (by simp [hS, hU])
    · rintro H' ⟨e, hD⟩
      rw [List.length_map] at hD
      refine ⟨_, rfl, a, CE, dx, _, _, rfl, e _ _ h1, W.cl, W.nK, ed_work _ _ _ _, _, rfl, ?_⟩
      refine mkEd (S := fun i => S i || U i) (he.wk.same e) hw (.inl ?_) fun x H2 nx e2 hx => k x H2 (Same.free e nx) (Same.trans e e2) hx
      rw [hD]
      unfold pick
      rw [List.map_map]
      rfl
def spLe (CW CE : Addr) : Sp := fun vs H Q _ => ∃ (a b wk wk' : Addr) (nm : Str) (ws : List Str) (S T : Nat → Bool), vs = [.ref a, .ref b] ∧ EdAt CW CE H a wk nm ws S ∧ EdAt CW CE H b wk' nm ws T ∧ WOk ws ∧
  ∀ H', Same H H' → Q (.bl ((idx ws.length S).all T)) H'
abbrev s_Edition_le : Stmt := inClass (top 17) 11
theorem sc_Edition_le : FnScope ["self", "other", "word"] ["self", "other"] (defScope s_Edition_le) := ⟨rfl, rfl, rfl, by decide +kernel, rfl, by decide +kernel, by decide +kernel⟩
theorem ok_le {CW CE fO : Addr} {fdO : FuncData} (F : Fun K "__le__" "Edition.__le__" s_Edition_le f fd) (T : Blt mg) (W : EdTxt K CE) (D_require_one_work : DefOk P w K mg base 3 "require_one_work" fO fdO ["one", "other"] (spOneW CW CE)) :
    FnOk P w K mg base CX0 4 f fd ["self", "other"] (spLe CW CE) := by
  refine F.ok sc_Edition_le (fun vs H Q E h => ?_) (fun cdv A outer s H vs Q E hr h => ?_)
  · obtain ⟨a, b, wk, wk', nm, ws, S, U, rfl, _⟩ := h
    rfl
  · obtain ⟨a, b, wk, wk', nm, ws, S, U, rfl, he, hf, hw, k⟩ := h
    obtain ⟨dx, t, u, v, h1, h2, h3, h4⟩ := id he.ob
    obtain ⟨dy, t', u', v', g1, g2, g3, g4⟩ := id hf.ob
    refine ⟨_, (pss_cons (ps_expr (pe_d D_require_one_work (hr.mono (by decide)) (pa_cons (pv 0) (pa_cons (pv 1) pa_nil))))
        (pss_one (ps_ret (pe_callB (cr_all rfl) (by rfl) T.b_all (by decide +kernel) (by exact (pa_cons (pe_lc (own := [("word", 2)]) (g := gName 2) (tt := tYes) (te := (tOp (rIn K false) (tVar 2) (tFld K (tVar 1) "words"))) rfl sc_Edition_le.nd (pi_tup (pe_fld (pv 0) rfl)) (blkOk_by (own := [("word", 2)]) (by kernel_rfl)) (fun _ _ _ _ _ => (pg_name (i := 2) sc_Edition_le.nd rfl (by first | exact Or.inl rfl | exact Or.inr rfl))) (fun _ _ _ _ _ => pts_nil) (fun _ _ _ _ _ => by exact (pe_cmpR op_in_seq (pv 2) (pe_fld (pv 1) rfl) (by rfl)))) pa_nil)))))), ?_⟩
    refine ⟨_, rfl, _, rfl, a, b, wk, wk', nm, ws, S, U, rfl, he, hf, hw, ?_⟩
    refine ⟨_, rfl, a, CE, dx, _, _, rfl, h1, W.cl, W.nW, ed_words _ _ _ _, t, rfl, ⟨_, SqT.of h2⟩, fun D nD => ?_⟩
    refine lc_tup (K := K) (a := t) (xs := (pick ws S).map V.str) (fun i H' => Same H H' ∧ H' D = some (.lst ((((idx ws.length S).take i).map U).map V.bl))) ⟨Same.upd' nD, upd_same⟩ (fun i H' _ p => SqT.of (p.1 _ _ h2)) ?_ ?_
    · rintro i x H' hx ⟨e, hD⟩
      have hi : i < (idx ws.length S).length := by
        have := (List.getElem?_eq_some_iff.mp hx).1
        unfold pick at this
        simpa using this
      obtain ⟨j, hj⟩ : ∃ j, (idx ws.length S)[i]? = some j := ⟨_, List.getElem?_eq_getElem hi⟩
      have hjm := idx_mem.mp (List.mem_of_getElem? hj)
      rw [pick_at hj] at hx
      cases (Option.some.inj hx)
      refine ⟨rfl, _, rfl, _, rfl, b, CE, dy, _, _, rfl, e _ _ g1, W.cl, W.nW, ed_words _ _ _ _, t', _, rfl, .inr (SqT.of (e _ _ g2)), rfl, strs_flat _, _, hD, small1000 (by simp; have := idx_len ws.length S; have := hw.l1; omega), Same.mut e nD, ?_⟩
      rw [upd_same]
      show some (HO.lst (_ ++ [V.bl (inV (.str (ws.getD j no)) ((pick ws U).map V.str))])) = _
      rw [strs_in, pick_in hw.ok.nd hjm.1, List.take_succ, hj]
      simp
    · rintro H' ⟨e, hD⟩
      have hl : ((pick ws S).map V.str).length = (idx ws.length S).length := by rw [List.length_map]; unfold pick; rw [List.length_map]
      rw [hl, List.take_length] at hD
      refine ⟨_, _, rfl, SqL.of hD, ?_⟩
      have q := k H' e
      have e2 : ((idx ws.length S).map U).all id = (idx ws.length S).all U := by rw [List.all_map]; rfl
      rw [← e2] at q
      exact q
end
end Lm

namespace Lm
open PySem L2
/-! ### the law's own defs -/
def kerL (N : Nat) (S : Nat → Bool) : List Nat := (List.range (N + 1)).map (ker S)
theorem kerL_len (N : Nat) (S : Nat → Bool) : (kerL N S).length = N + 1 := by unfold kerL; simp
theorem kerL_at {N c : Nat} (S : Nat → Bool) (h : c ≤ N) : (kerL N S)[c]? = some (ker S c) := by
  unfold kerL
  rw [List.getElem?_map, List.getElem?_range (by omega)]
  rfl
theorem not_fresh {H H' : Hp} {p : Addr} (e : Same H H') (h : H' p = none) : H p = none := e.free h
theorem StAt.neL {H : Hp} {st c : Addr} (S : StAt H st c) : ∃ xs, H st = some (.lst xs) := let ⟨⟨_, _, _, h⟩, _, _⟩ := S; ⟨_, h⟩
section
variable {P : Program} {w : World} {K : PySem.W.Frag} {mg : Str → Option Value} {base : Heap} {f : Addr} {fd : FuncData}
def spBase (CW : Addr) : Sp := fun vs H Q _ => ∃ (st c : Addr) (m : Nat), vs = [.ref st, .int m] ∧ StAt H st c ∧ 1 ≤ m ∧ m ≤ 60 ∧ ∀ (t r wk tw : Addr) (ws : List Str) (H' : Hp), WOk ws → ws.length = m → H t = none → H r = none → H' t = some (.tup [.ref r, .ref wk, .ref tw]) → H' r = some (.lst (ws.map V.str)) →
  WkAt CW H' wk "a" ws → WkAt CW H' tw "a" ws → StAt H' st c → Kp st H H' → Q (.ref t) H'
abbrev s_base : Stmt := top 31
theorem sc_base : FnScope ["_law_state", "_law_many", "_law_rows"] ["_law_state", "_law_many"] (defScope s_base) := ⟨rfl, rfl, rfl, by decide +kernel, rfl, by decide +kernel, by decide +kernel⟩
theorem ok_base {CW fW fS : Addr} {fdW fdS : FuncData} (F : Fun K "_law_base" "_law_base" s_base f fd) (T : Blt mg) (D_some_words : DefOk P w K mg base 3 "_law_some_words" fS fdS ["_law_state", "_law_many"] spSomeW)
    (K_Work : ClsOk P w K mg base 2 "Work" CW fW fdW ["self", "name", "passages"] (spWkInit CW)) : FnOk P w K mg base CX0 4 f fd ["_law_state", "_law_many"] (spBase CW) := by
  refine F.ok sc_base (fun vs H Q E h => ?_) (fun cdv A outer s H vs Q E hr h => ?_)
  · obtain ⟨st, c, m, rfl, _⟩ := h
    rfl
  · obtain ⟨st, c, m, rfl, S, m0, m1, k⟩ := h
    refine ⟨_, (pss_cons (ps_set (i := 2) sc_base.nd rfl (by first | exact Or.inl rfl | exact Or.inr rfl) (pe_d D_some_words (hr.mono (by decide)) (pa_cons (pv 0) (pa_cons (pv 1) pa_nil))))
        (pss_one (ps_ret (pe_tup (pa_cons (pv 2) (pa_cons (pe_mk K_Work (hr.mono (by decide)) (pa_cons pe_str (pa_cons (pv 2) pa_nil))) (pa_cons (pe_mk K_Work (hr.mono (by decide)) (pa_cons pe_str (pa_cons (pe_callTy call_tuple_of (by rfl) T.b_tuple (by decide +kernel) (pa_cons (pv 2) pa_nil)) pa_nil))) pa_nil))))))), ?_⟩
    refine ⟨_, rfl, _, rfl, st, c, m, rfl, S, m1, fun r ws H1 nr hw S1 e1 hr1 => ?_⟩
    have hok : WOk ws := ⟨by rw [hw.len]; exact hw, by rw [hw.len]; omega, by rw [hw.len]; omega⟩
    obtain ⟨hrs, hrc⟩ := S.of_new nr
    refine ⟨_, rfl, _, rfl, ?_⟩
    refine mkWk (nm := "a") (by decide +kernel) hok (.inl hr1) fun wk H2 nwk e2 hwk => ?_
    refine ⟨_, rfl, r, _, rfl, .inl ⟨SqL.of (e2 _ _ hr1), fun q nq => ?_⟩⟩
    refine mkWk (nm := "a") (by decide +kernel) hok (.inr upd_same) fun tw H3 ntw e3 htw => ?_
    refine ⟨by show 3 ≤ sizeLine; decide, fun t nt => ?_⟩
    have e13 : Same H1 H3 := (e2.trans (Same.upd' nq)).trans e3
    have e23 : Same H2 H3 := (Same.upd' nq).trans e3
    have nt1 : H1 t = none := e13.free nt
    have hts : t ≠ st := (S1.of_new nt1).1
    refine k t r wk tw ws _ hok hw.len (e1.free hts nt1) nr upd_same ((Same.upd' nt) _ _ (e13 _ _ hr1)) ((hwk.same e23).same (Same.upd' nt)) (htw.same (Same.upd' nt)) ((S1.same e13).same (Same.upd' nt)) ((e1.trans (Kp.of e13)).trans (Kp.of (Same.upd' nt)))
def spEdn (CW CE : Addr) : Sp := fun vs H Q _ => ∃ (wk r l : Addr) (nm : Str) (ws : List Str) (S : Nat → Bool), vs = [.ref wk, .ref r, .ref l] ∧ WkAt CW H wk nm ws ∧ WOk ws ∧ H r = some (.lst (ws.map V.str)) ∧ H l = some (.lst (nts (idx ws.length S))) ∧
  ∀ p H', H p = none → Same H H' → EdAt CW CE H' p wk nm ws S → Q (.ref p) H'
abbrev s_edition : Stmt := top 32
theorem sc_edition : FnScope ["_law_base_here", "_law_rows", "_law_numbers", "_law_k"] ["_law_base_here", "_law_rows", "_law_numbers"] (defScope s_edition) := ⟨rfl, rfl, rfl, by decide +kernel, rfl, by decide +kernel, by decide +kernel⟩
theorem ok_edn {CW CE fE : Addr} {fdE : FuncData} (F : Fun K "_law_edition" "_law_edition" s_edition f fd) (K_Edition : ClsOk P w K mg base 4 "Edition" CE fE fdE ["self", "work", "passages"] (spEdInit CW CE)) : FnOk P w K mg base CX0 6 f fd ["_law_base_here", "_law_rows", "_law_numbers"] (spEdn CW CE) := by
  refine F.ok sc_edition (fun vs H Q E h => ?_) (fun cdv A outer s H vs Q E hr h => ?_)
  · obtain ⟨wk, r, l, nm, ws, S, rfl, _⟩ := h
    rfl
  · obtain ⟨wk, r, l, nm, ws, S, rfl, kw, hw, hrr, hl, k⟩ := h
    refine ⟨_, (pss_one (ps_ret (pe_mk K_Edition (hr.mono (by decide)) (by exact (pa_cons (pv 0) (pa_cons (pe_lc (own := [("_law_k", 3)]) (g := gName 3) (tt := tYes) (te := (tOp (rIxL K) (tVar 1) (tVar 3))) rfl sc_edition.nd (pi_list (pv 2)) (blkOk_by (own := [("_law_k", 3)]) (by kernel_rfl)) (fun _ _ _ _ _ => (pg_name (i := 3) sc_edition.nd rfl (by first | exact Or.inl rfl | exact Or.inr rfl))) (fun _ _ _ _ _ => pts_nil) (fun _ _ _ _ _ => by exact (pe_ix ix_list (pv 1) (pv 3) (fun _ _ => rfl)))) pa_nil)))))), ?_⟩
    refine ⟨_, rfl, _, rfl, l, rfl, ⟨_, SqL.of hl⟩, fun D nD => ?_⟩
    refine lc_list (K := K) (a := l) (xs := nts (idx ws.length S)) (fun i H' => Same H H' ∧ H' D = some (.lst (((idx ws.length S).take i).map fun j => V.str (ws.getD j no)))) ⟨Same.upd' nD, upd_same⟩ (fun i H' _ p => SqL.of (p.1 _ _ hl)) ?_ ?_
    · rintro i x H' hx ⟨e, hD⟩
      have hi : i < (idx ws.length S).length := by
        have := (List.getElem?_eq_some_iff.mp hx).1
        rw [nts_len] at this
        exact this
      obtain ⟨j, hj⟩ : ∃ j, (idx ws.length S)[i]? = some j := ⟨_, List.getElem?_eq_getElem hi⟩
      have hjm := idx_mem.mp (List.mem_of_getElem? hj)
      rw [nts_at hj] at hx
      cases (Option.some.inj hx)
      refine ⟨rfl, _, rfl, _, rfl, r, _, _, _, rfl, rfl, SqL.of (e _ _ hrr), atI_nat (by rw [List.getElem?_map, nth_at hjm.1]; rfl), _, hD, small1000 (by simp; have := idx_len ws.length S; have := hw.l1; omega), Same.mut e nD, ?_⟩
      rw [upd_same, List.take_succ, hj]
      simp
    · rintro H' ⟨e, hD⟩
      rw [nts_len, List.take_length] at hD
      refine mkEd (S := S) (kw.same e) hw (.inl ?_) fun x H2 nx e2 hx => k x H2 (Same.free e nx) (Same.trans e e2) hx
      rw [hD]
      unfold pick
      rw [List.map_map]
      rfl
def spRow (CW CE : Addr) : Sp := fun vs H Q _ => ∃ (a wk : Addr) (N : Nat) (nm : Str) (ws : List Str) (S : Nat → Bool), vs = [.ref a, .int N] ∧ EdAt CW CE H a wk nm ws S ∧ WOk ws ∧ N = ws.length ∧ ∀ p H', H p = none → Same H H' → H' p = some (.lst (nts (kerL N S))) → Q (.ref p) H'
abbrev s_row : Stmt := top 33
theorem sc_row : FnScope ["_law_made", "_law_far", "_law_k"] ["_law_made", "_law_far"] (defScope s_row) := ⟨rfl, rfl, rfl, by decide +kernel, rfl, by decide +kernel, by decide +kernel⟩
theorem ok_row {CW CE fK : Addr} {fdK : FuncData} (F : Fun K "_law_row" "_law_row" s_row f fd) (T : Blt mg) (M_Edition_kernel : MetOk P w K mg base 5 CE "kernel" fK fdK ["self", "cut"] (spKernel CW CE)) : FnOk P w K mg base CX0 6 f fd ["_law_made", "_law_far"] (spRow CW CE) := by
  refine F.ok sc_row (fun vs H Q E h => ?_) (fun cdv A outer s H vs Q E hr h => ?_)
  · obtain ⟨a, wk, N, nm, ws, S, rfl, _⟩ := h
    rfl
  · obtain ⟨a, wk, N, nm, ws, S, rfl, he, hw, rfl, k⟩ := h
    obtain ⟨dx, t, u, v, h1, h2, h3, h4⟩ := id he.ob
    have hl1 := hw.l1
    refine ⟨_, (pss_one (ps_ret (pe_lc (own := [("_law_k", 2)]) (g := gName 2) (tt := tYes) (te := (tMeth CE "kernel" (spKernel CW CE) [] E0 (tVar 0) (tCons (tVar 2) tNil))) rfl sc_row.nd (pi_range1 rfl T.b_range (pa_cons (pe_op op_add (pv 1) pe_int) pa_nil)) (blkOk_by (own := [("_law_k", 2)]) (by kernel_rfl)) (fun _ _ _ _ _ => (pg_name (i := 2) sc_row.nd rfl (by first | exact Or.inl rfl | exact Or.inr rfl))) (fun _ _ _ _ _ => pts_nil) (fun _ _ _ _ _ => by exact (pe_m M_Edition_kernel (hr.mono (by decide)) (pv 0) (pa_cons (pv 2) pa_nil)))))), ?_⟩
    refine ⟨_, rfl, _, _, rfl, rfl, _, rfl, by omega, by omega, fun D nD => ?_⟩
    refine lc_range (lo := 0) (n := ((ws.length : Int) + 1).toNat) (fun i H' => Same H H' ∧ H' D = some (.lst (nts ((List.range i).map (ker S))))) ⟨Same.upd' nD, upd_same⟩ ?_ ?_
    · rintro i H' hi ⟨e, hD⟩
      have z : (0 : Int) + (i : Int) = (i : Int) := by omega
      refine ⟨rfl, _, rfl, a, dx, _, rfl, e _ _ h1, ed_no _ _ _ _ (by decide +kernel) (by decide +kernel) (by decide +kernel) (by decide +kernel), _, rfl, a, wk, i, nm, ws, S, by rw [z]; rfl, he.same e, hl1, by omega, _, hD, small1000 (by rw [nts_len]; simp; omega), Same.mut e nD, ?_⟩
      rw [upd_same, List.range_succ]
      simp [nts]
    · rintro H' ⟨e, hD⟩
      have z : ((ws.length : Int) + 1).toNat = ws.length + 1 := by omega
      rw [z] at hD
      exact k D H' nD e hD
def spIsK (CW CE : Addr) : Sp := fun vs H Q _ => ∃ (a wk r l : Addr) (nm : Str) (ws : List Str) (S : Nat → Bool), vs = [.ref a, .ref r, .ref l] ∧ EdAt CW CE H a wk nm ws S ∧ WOk ws ∧ H r = some (.lst (ws.map V.str)) ∧ H l = some (.lst (nts (kerL ws.length S))) ∧ ∀ H', Same H H' → Q (.bl true) H'
abbrev s_is_kernel : Stmt := top 34
theorem sc_is_kernel : FnScope ["_law_made", "_law_rows", "_law_told", "_law_k", "_law_x"] ["_law_made", "_law_rows", "_law_told"] (defScope s_is_kernel) := ⟨rfl, rfl, rfl, by decide +kernel, rfl, by decide +kernel, by decide +kernel⟩
theorem ok_isk {CW CE fI : Addr} {fdI : FuncData} (F : Fun K "_law_is_kernel" "_law_is_kernel" s_is_kernel f fd) (T : Blt mg) (M_Edition_contains : MetOk P w K mg base 1 CE "__contains__" fI fdI ["self", "x"] (spEdIn CW CE)) : FnOk P w K mg base CX0 2 f fd ["_law_made", "_law_rows", "_law_told"] (spIsK CW CE) := by
  refine F.ok sc_is_kernel (fun vs H Q E h => ?_) (fun cdv A outer s H vs Q E hr h => ?_)
  · obtain ⟨a, wk, r, l, nm, ws, S, rfl, _⟩ := h
    rfl
  · obtain ⟨a, wk, r, l, nm, ws, S, rfl, he, hw, hrr, hl, k⟩ := h
    obtain ⟨dx, t, u, v, h1, h2, h3, h4⟩ := id he.ob
    refine ⟨_, (pss_cons (ps_for PassesOwn.never rfl (pi_enumA rfl T.b_enumerate (pa_cons (pv 2) pa_nil)) (pg_tup rfl (pgs_cons (pg_name (i := 3) sc_is_kernel.nd rfl (by first | exact Or.inl rfl | exact Or.inr rfl)) (pgs_cons (pg_name (i := 4) sc_is_kernel.nd rfl (by first | exact Or.inl rfl | exact Or.inr rfl)) pgs_nil))) (pss_cons (ps_if (PW.pt (pw_or (pt_cmpR op_gt (pv 4) (pv 3) (nomark _)) (pw_or (PW.pt (pw_and (pt_cmpR op_gt (pv 3) pe_int (nomark _)) (pw_and1 (pt_cmpR op_gt (pe_ix ix_list (pv 2) (pe_op op_sub (pv 3) pe_int) (fun _ _ => rfl)) (pv 4) (nomark _))))) (pw_or1 (pt_cmpR op_ne (pe_ix ix_list (pv 2) (pv 4) (fun _ _ => rfl)) (pv 4) (nomark _)))))) (pss_one (ps_ret pe_bl)) pss_nil)
        (pss_one (ps_if (pt_cmpR op_ne (pe_cmpR op_eq (pv 4) (pv 3) (nomark _)) (pe_or (pe_cmpR op_eq (pv 3) pe_int (nomark _)) (pe_one (pe_cmpR (M_Edition_contains.isin (hr.mono (by decide))) (pe_ix ix_list (pv 1) (pe_op op_sub (pv 3) pe_int) (fun _ _ => rfl)) (pv 0) (by rfl)))) (nomark _)) (pss_one (ps_ret pe_bl)) pss_nil))))
        (pss_one (ps_ret pe_bl))), ?_⟩
    refine ⟨_, rfl, for_enumA (.inl hl) (fun i σ' H' => ∃ u v : Option V, σ' = [some (.ref a), some (.ref r), some (.ref l), u, v] ∧ Same H H') ⟨none, none, rfl, Same.refl H⟩ ?_ ?_ ?_⟩
    · rintro i σ' H' _ ⟨u, v, rfl, e⟩ o ho
      exact e _ _ ho
    · rintro i y σ' H' H'' hi ⟨u, v, rfl, e⟩ ⟨T', x1, x2, rfl, nT, rfl, hx1, hx2⟩
      cases (Option.some.inj hx1)
      rw [nts_len, kerL_len] at hi
      have hx2 : (nts (kerL ws.length S))[i]? = some x2 := hx2
      rw [nts_at (kerL_at S (by omega))] at hx2
      cases (Option.some.inj hx2)
      have e3 : Same H (upd H' T' (.tup [.int (i : Nat), .int (ker S i : Nat)])) := Same.trans e (Same.upd' nT)
      have hk := ker_le S i
      have g1 := SqL.of (K := K) (e3 _ _ hl)
      have nx : ∃ u v : Option V, [some (V.ref a), some (.ref r), some (.ref l), some (.int (i : Nat)), some (.int (ker S i : Nat))] = [some (.ref a), some (.ref r), some (.ref l), u, v] ∧ Same H (upd H' T' (.tup [.int (i : Nat), .int (ker S i : Nat)])) := ⟨_, _, rfl, e3⟩
      refine ⟨T', _, rfl, SqT.of upd_same, rfl, _, _, rfl, _, _, rfl, rfl, ?_⟩
      refine ⟨_, rfl, _, rfl, _, _, rfl, rfl, _, rfl, ite2 (fun h => absurd (of_decide_eq_true h) (by omega)) (fun _ => ?_)⟩
      refine ⟨_, rfl, _, _, rfl, rfl, _, rfl, ite2 (fun hk0 => ?b) (fun _ => ?c)⟩
      case' b =>
        have hk0 : 0 < i := by have := of_decide_eq_true hk0; omega
        have hkm := ker_mono S (a := i - 1) (b := i) (by omega)
        refine ⟨_, rfl, _, rfl, _, _, rfl, rfl, _, _, _, _, rfl, rfl, g1, at_of (j := i - 1) (by omega) (nts_at (kerL_at S (c := i - 1) (by omega))), _, rfl, _, _, rfl, rfl, _, rfl, ite2 (fun h => absurd (of_decide_eq_true h) (by omega)) (fun _ => ?_)⟩
      all_goals
        refine ⟨_, rfl, _, rfl, _, _, _, _, rfl, rfl, g1, atI_nat (nts_at (kerL_at S (c := ker S i) (by omega))), _, rfl, rfl, _, rfl, ?_⟩
        rw [ker_idem, decide_eq_true rfl]
        have hq : ∀ b : Bool, b = decide (ker S i = i) → _ := fun b hb => hb
        have hxk : decide (V.int (ker S i : Nat) = V.int (i : Nat)) = decide (ker S i = i) := by
          by_cases h : ker S i = i
          · rw [h]; simp
          · rw [decide_eq_false h]; exact decide_eq_false fun z => h (by have := V.int.inj z; omega)
        refine ⟨_, rfl, _, rfl, rfl, _, rfl, rfl, _, rfl, ite2 (fun h0 => ?_) (fun h0 => ?_)⟩
        · have h0 : i = 0 := by have := V.int.inj (of_decide_eq_true h0); omega
          refine ⟨rfl, _, rfl, ?_⟩
          rw [hxk, decide_eq_true (show ker S i = i by rw [h0]; rfl)]
          exact nx
        · have h0 : i ≠ 0 := fun z => h0 (decide_eq_true (by rw [z]; rfl))
          obtain ⟨j, rfl⟩ : ∃ j, i = j + 1 := ⟨i - 1, by omega⟩
          have hj : ws[j]? = some (ws.getD j no) := nth_at (by omega)
          refine ⟨_, rfl, _, rfl, _, _, rfl, rfl, _, _, _, _, rfl, rfl, SqL.of (e3 _ _ hrr), at_of (j := j) (by omega) (by rw [List.getElem?_map, hj]; rfl), _, rfl, a, dx, _, rfl, e3 _ _ h1, a, wk, _, nm, ws, S, rfl, he.same e3, _, rfl, ?_⟩
          refine ⟨rfl, _, rfl, ?_⟩
          rw [hxk, pick_in hw.ok.nd (by omega)]
          have e4 : decide (ker S (j + 1) = j + 1) = S j := by
            by_cases h : S j = true
            · rw [h]; exact decide_eq_true (by rw [ker]; exact if_pos h)
            · have h' : S j = false := by simpa using h
              rw [h']
              refine decide_eq_false fun z => ?_
              rw [ker, if_neg h] at z
              have := ker_le S j
              omega
          rw [e4, decide_eq_true (show V.bl (S j) = V.bl (if false = true then !S j else S j) from rfl)]
          exact nx
    · rintro σ' H' ⟨u, v, rfl, e⟩
      exact k H' e
end
end Lm

namespace Lm
open PySem L2 Evl
def rInt : List V → Hp → VK → Prop := fun xs H Q => (∃ i, xs = [.int i] ∧ Q (.int i) H) ∨ ∃ k, xs = [.bl k] ∧ Q (.int (if k = true then 1 else 0)) H
/-! ### lists of data compared -/
section
variable {K : PySem.W.Frag} {H : Hp}
theorem dpAll_nts : ∀ l : List Nat, DpAll K H (nts l) (l.map fun n : Nat => PyData.int n)
  | [] => .nil
  | x :: r => .cons (.int x) (dpAll_nts r)
theorem dpAll_bls : ∀ l : List Bool, DpAll K H (l.map V.bl) (l.map PyData.bool)
  | [] => .nil
  | x :: r => .cons (.bl x) (dpAll_bls r)
theorem lay_nts : ∀ l : List Nat, PyData.canLayAll0 (l.map fun n : Nat => PyData.int n) = true
  | [] => rfl
  | x :: r => by
    show (true && PyData.canLayAll0 (r.map fun n : Nat => PyData.int n)) = true
    rw [lay_nts r]
    rfl
theorem lay_bls : ∀ l : List Bool, PyData.canLayAll0 (l.map PyData.bool) = true
  | [] => rfl
  | x :: r => by
    show (true && PyData.canLayAll0 (r.map PyData.bool)) = true
    rw [lay_bls r]
    rfl
theorem depth_nts : ∀ l : List Nat, PyData.depthAll (l.map fun n : Nat => PyData.int n) = 0
  | [] => rfl
  | x :: r => by
    show max 0 (PyData.depthAll (r.map fun n : Nat => PyData.int n)) = 0
    rw [depth_nts r]
    rfl
theorem depth_bls : ∀ l : List Bool, PyData.depthAll (l.map PyData.bool) = 0
  | [] => rfl
  | x :: r => by
    show max 0 (PyData.depthAll (r.map PyData.bool)) = 0
    rw [depth_bls r]
    rfl
theorem shaped_nts (l : List Nat) : PySem.SeqAt.shaped (.list (l.map fun n : Nat => PyData.int n)) = true := by
  show (PyData.canLayAll0 (l.map fun n : Nat => PyData.int n) && decide (PyData.depthAll (l.map fun n : Nat => PyData.int n) + 1 ≤ 64)) = true
  rw [lay_nts l, depth_nts]
  rfl
theorem shaped_bls (l : List Bool) : PySem.SeqAt.shaped (.list (l.map PyData.bool)) = true := by
  show (PyData.canLayAll0 (l.map PyData.bool) && decide (PyData.depthAll (l.map PyData.bool) + 1 ≤ 64)) = true
  rw [lay_bls l, depth_bls]
  rfl
theorem eqv_self {d : PyData} (h : PySem.SeqAt.shaped d = true) : PyData.eqv d d = true := PySem.SeqAt.eqv_refl d (PySem.SeqAt.canLay_of_shaped h)
/-- two equal lists of numbers, of truths -/
theorem rv_neN {p q : Addr} {l : List Nat} (h1 : H p = some (.lst (nts l))) (h2 : H q = some (.lst (nts l))) : RV (rNeD K) (.ref p) (.ref q) H (.bl false) := fun H1 e Q k =>
  ⟨_, _, .lst (SqL.of (e _ _ h1)) (dpAll_nts l), .lst (SqL.of (e _ _ h2)) (dpAll_nts l), shaped_nts l, shaped_nts l, by rw [eqv_self (shaped_nts l)]; exact k H1 (Ex.refl H1)⟩
theorem rv_eqN {p q : Addr} {l : List Nat} (h1 : H p = some (.lst (nts l))) (h2 : H q = some (.lst (nts l))) : RV (rEqD K) (.ref p) (.ref q) H (.bl true) := fun H1 e Q k =>
  ⟨_, _, .lst (SqL.of (e _ _ h1)) (dpAll_nts l), .lst (SqL.of (e _ _ h2)) (dpAll_nts l), shaped_nts l, shaped_nts l, by rw [eqv_self (shaped_nts l)]; exact k H1 (Ex.refl H1)⟩
theorem rv_neB {p q : Addr} {l : List Bool} (h1 : H p = some (.lst (l.map V.bl))) (h2 : H q = some (.lst (l.map V.bl))) : RV (rNeD K) (.ref p) (.ref q) H (.bl false) := fun H1 e Q k =>
  ⟨_, _, .lst (SqL.of (e _ _ h1)) (dpAll_bls l), .lst (SqL.of (e _ _ h2)) (dpAll_bls l), shaped_bls l, shaped_bls l, by rw [eqv_self (shaped_bls l)]; exact k H1 (Ex.refl H1)⟩
end
theorem given_all {n : Nat} {f : Nat → Bool} {v : Nat → V} (h : ∀ i < n, f i = true) : given n f v = (List.range n).map v := by
  unfold given
  rw [List.filter_eq_self.mpr fun i hi => h i (List.mem_range.mp hi)]
theorem et_yes {σ : L2.St} {H : Hp} : EvT tYes σ H true := fun H1 _ _ q => q H1 (Ex.refl H1)
theorem ev_int {σ : L2.St} {H : Hp} {te : TE} {i : Int} (h : Ev te σ H (.int i)) : Ev (tCB rInt (tCons te tNil)) σ H (.int i) := fun H1 e Q q => h H1 e _ fun H2 e2 => .inl ⟨i, rfl, q H2 e2⟩
theorem ev_max {K : PySem.W.Frag} {σ : L2.St} {H : Hp} {te : TE} {ns : List Int} {m : Int} (h : EvL te σ H (ns.map V.int)) (hm : m ∈ ns) (hb : ∀ x ∈ ns, x ≤ m) : Ev (tCB (rMax K) (tCons te tNil)) σ H (.int m) := fun H1 e Q q =>
  h H1 e _ fun p H2 hp e2 h2 => ⟨p, ns, rfl, SqL.of h2, List.length_pos_of_mem hm, fun m' hm' hb' => by
    have : m' = m := by
      have h1 := hb m' hm'
      have h2 := hb' m hm
      omega
    subst this
    exact q H2 e2⟩
theorem ev_all {K : PySem.W.Frag} {σ : L2.St} {H : Hp} {te : TE} {bs : List Bool} (h : EvL te σ H (bs.map V.bl)) : Ev (tCB (rAll K) (tCons te tNil)) σ H (.bl (bs.all id)) := fun H1 e Q q =>
  h H1 e _ fun p H2 hp e2 h2 => ⟨p, bs, rfl, SqL.of h2, q H2 e2⟩
theorem el_rg {σ : L2.St} {H : Hp} {te : TE} {n : Int} (h : Ev te σ H (.int n)) (hn : 0 ≤ n ∧ n ≤ 100000) : EvL (tLstRg (tRg1 te)) σ H (nts (List.range n.toNat)) := fun H1 e Q q => h H1 e _ fun H2 e2 => by
  refine ⟨n, rfl, .of_le (by omega) (by omega) (by omega) (by omega), fun p hp => ?_⟩
  have e3 : rgV 0 n = nts (List.range n.toNat) := by
    unfold rgV nts
    rw [Int.sub_zero]
    exact List.map_congr_left fun i _ => by rw [Int.zero_add]
  rw [e3]
  exact q p _ (fresh_back e2 hp) (e2.trans (Ex.new hp)) upd_same
theorem wipe1 (σ : L2.St) (j : Nat) (x : V) : wipe ((wipe σ [j]).set j (some x)) [j] = wipe σ [j] := by
  show (((σ.set j none).set j (some x)).set j none) = σ.set j none
  rw [List.set_set, List.set_set]
theorem wv {σ : L2.St} {i j : Nat} {x y : V} (h : i ≠ j) (hi : σ[i]? = some (some y)) : ((wipe σ [j]).set j (some x))[i]? = some (some y) := by
  show (((σ.set j none).set j (some x)))[i]? = _
  rw [List.getElem?_set_ne (Ne.symm h), List.getElem?_set_ne (Ne.symm h)]
  exact hi
theorem wj {σ : L2.St} {j : Nat} {x : V} (hl : j < σ.length) : ((wipe σ [j]).set j (some x))[j]? = some (some x) := by
  show (((σ.set j none).set j (some x)))[j]? = _
  rw [List.set_set, List.getElem?_set_self hl]
section
variable {P : Program} {w : World} {K : PySem.W.Frag} {mg : Str → Option Value} {base : Heap} {f : Addr} {fd : FuncData}
def spCR (CW CE : Addr) : Sp := fun vs H Q _ => ∃ (a wk : Addr) (N : Nat) (nm : Str) (ws : List Str) (S : Nat → Bool), vs = [.ref a, .int N] ∧ EdAt CW CE H a wk nm ws S ∧ WOk ws ∧ N = ws.length ∧ ∀ H', Same H H' → Q (.bl true) H'
abbrev s_counts_right : Stmt := top 35
theorem sc_counts_right : FnScope ["_law_made", "_law_far", "_law_many", "_law_k", "_law_size", "_law_n"] ["_law_made", "_law_far"] (defScope s_counts_right) := ⟨rfl, rfl, rfl, by decide +kernel, rfl, by decide +kernel, by decide +kernel⟩
theorem cut_getD {N n : Nat} {S : Nat → Bool} (h : n ≤ cnt S N) : (cutsL N S)[n]? = some ((cutsL N S).getD n 0) := by
  have hl : n < (cutsL N S).length := by rw [cutsL_len]; omega
  rw [List.getD_eq_getElem?_getD, List.getElem?_eq_getElem hl]
  rfl
theorem ok_cr {CW CE fL fA fB : Addr} {fdL fdA fdB : FuncData} (F : Fun K "_law_counts_right" "_law_counts_right" s_counts_right f fd) (T : Blt mg) (M_Edition_len : MetOk P w K mg base 1 CE "__len__" fL fdL ["self"] (spEdLen CW CE))
    (M_Edition_count_at : MetOk P w K mg base 4 CE "count_at" fA fdA ["self", "cut"] (spCountAt CW CE)) (M_Edition_cut_behind : MetOk P w K mg base 4 CE "cut_behind" fB fdB ["self", "count"] (spCutB CW CE)) : FnOk P w K mg base CX0 5 f fd ["_law_made", "_law_far"] (spCR CW CE) := by
  refine F.ok sc_counts_right (fun vs H Q E h => ?_) (fun cdv A outer s H vs Q E hr h => ?_)
  · obtain ⟨a, wk, N, nm, ws, S, rfl, _⟩ := h
    rfl
  · obtain ⟨a, wk, N, nm, ws, S, rfl, he, hw, rfl, k⟩ := h
    obtain ⟨dx, t, u, v, h1, h2, h3, h4⟩ := id he.ob
    have hl1 := hw.l1
    have hM := cnt_le S ws.length
    have nol : ∀ {m : Str}, (m == "work") = false → (m == "words") = false → (m == "cuts") = false → (m == "counts") = false → (edF wk t u v).lookup m = none := fun a b c d => ed_no _ _ _ _ a b c d
    have evCut : ∀ (σ : L2.St) (H' : Hp) (n : Nat), Same H H' → σ[0]? = some (some (.ref a)) → σ[5]? = some (some (.int (n : Int))) → n ≤ cnt S ws.length → Ev (tMeth CE "cut_behind" (spCutB CW CE) [] E0 (tVar 0) (tCons (tVar 5) tNil)) σ H' (.int ((cutsL ws.length S).getD n 0 : Nat)) := by
      intro σ H' n e h0 h5 hn H1 e1 Q q
      have e2 : Same H H1 := Same.trans e e1
      exact ⟨_, h0, a, dx, _, rfl, e2 _ _ h1, nol (by decide +kernel) (by decide +kernel) (by decide +kernel) (by decide +kernel), _, h5, a, wk, n, _, nm, ws, S, rfl, he.same e2, hl1, cut_getD hn, q H1 (Ex.refl H1)⟩
    refine ⟨_, (pss_cons (ps_set (i := 2) sc_counts_right.nd rfl (by first | exact Or.inl rfl | exact Or.inr rfl) (pe_callB (M_Edition_len.len (hr.mono (by decide))) (by rfl) T.b_len PySem.boot_len (pa_cons (pv 0) pa_nil)))
        (pss_cons (ps_for PassesOwn.never rfl (pi_range1 rfl T.b_range (pa_cons (pe_op op_add (pv 1) pe_int) pa_nil)) (pg_name (i := 3) sc_counts_right.nd rfl (by first | exact Or.inl rfl | exact Or.inr rfl)) (pss_cons (ps_set (i := 4) sc_counts_right.nd rfl (by first | exact Or.inl rfl | exact Or.inr rfl) (pe_m M_Edition_count_at (hr.mono (by decide)) (pv 0) (pa_cons (pv 3) pa_nil)))
        (pss_one (ps_if (pt_cmpR (op_neD hr.units) (pe_lc (own := [("_law_n", 5)]) (g := gName 5) (tt := tYes) (te := (tOp (rI0 fun i j => .bl (decide (i ≤ j))) (tMeth CE "cut_behind" (spCutB CW CE) [] E0 (tVar 0) (tCons (tVar 5) tNil)) (tVar 3))) rfl sc_counts_right.nd (pi_range1 rfl T.b_range (pa_cons (pe_op op_add (pv 2) pe_int) pa_nil)) (blkOk_by (own := [("_law_n", 5)]) (by kernel_rfl)) (fun _ _ _ _ _ => (pg_name (i := 5) sc_counts_right.nd rfl (by first | exact Or.inl rfl | exact Or.inr rfl))) (fun _ _ _ _ _ => pts_nil) (fun _ _ _ _ _ => by exact (pe_cmpR op_le (pe_m M_Edition_cut_behind (hr.mono (by decide)) (pv 0) (pa_cons (pv 5) pa_nil)) (pv 3) (nomark _)))) (pe_lc (own := [("_law_n", 5)]) (g := gName 5) (tt := tYes) (te := (tOp (rI0 fun i j => .bl (decide (i ≤ j))) (tVar 5) (tVar 4))) rfl sc_counts_right.nd (pi_range1 rfl T.b_range (pa_cons (pe_op op_add (pv 2) pe_int) pa_nil)) (blkOk_by (own := [("_law_n", 5)]) (by kernel_rfl)) (fun _ _ _ _ _ => (pg_name (i := 5) sc_counts_right.nd rfl (by first | exact Or.inl rfl | exact Or.inr rfl))) (fun _ _ _ _ _ => pts_nil) (fun _ _ _ _ _ => by exact (pe_cmpR op_le (pv 5) (pv 4) (nomark _)))) (nomark _)) (pss_one (ps_ret pe_bl)) pss_nil))))
        (pss_one (ps_ret (pe_cmpR (op_eqD hr.units) (pe_lc (own := [("_law_n", 5)]) (g := gName 5) (tt := tYes) (te := (tMeth CE "count_at" (spCountAt CW CE) [] E0 (tVar 0) (tCons (tMeth CE "cut_behind" (spCutB CW CE) [] E0 (tVar 0) (tCons (tVar 5) tNil)) tNil))) rfl sc_counts_right.nd (pi_range1 rfl T.b_range (pa_cons (pe_op op_add (pv 2) pe_int) pa_nil)) (blkOk_by (own := [("_law_n", 5)]) (by kernel_rfl)) (fun _ _ _ _ _ => (pg_name (i := 5) sc_counts_right.nd rfl (by first | exact Or.inl rfl | exact Or.inr rfl))) (fun _ _ _ _ _ => pts_nil) (fun _ _ _ _ _ => by exact (pe_m M_Edition_count_at (hr.mono (by decide)) (pv 0) (pa_cons (pe_m M_Edition_cut_behind (hr.mono (by decide)) (pv 0) (pa_cons (pv 5) pa_nil)) pa_nil)))) (pe_listRg rfl rfl T.b_list (prg_1 rfl T.b_range (pe_op op_add (pv 2) pe_int))) (nomark _)))))), ?_⟩
    refine ⟨_, rfl, a, dx, _, rfl, h1, a, wk, nm, ws, S, rfl, he, cnt S ws.length, rfl, by omega, ?_⟩
    refine ⟨_, rfl, _, _, rfl, rfl, _, rfl, by omega, by omega, for_range (lo := 0) (n := ((ws.length : Int) + 1).toNat) (fun i σ' H' => ∃ u v : Option V, σ' = [some (.ref a), some (.int (ws.length : Nat)), some (.int (cnt S ws.length : Nat)), u, v, none] ∧ Same H H') ⟨none, none, rfl, Same.refl H⟩ ?_ ?_⟩
    · rintro i σ' H' hi ⟨u, v, rfl, e⟩
      have hi : i ≤ ws.length := by omega
      have z : (0 : Int) + (i : Int) = (i : Int) := by omega
      refine ⟨_, rfl, a, dx, _, rfl, e _ _ h1, nol (by decide +kernel) (by decide +kernel) (by decide +kernel) (by decide +kernel), _, rfl, a, wk, i, nm, ws, S, by rw [z]; rfl, he.same e, hl1, hi, ?_⟩
      have hb : (List.range (cnt S ws.length + 1)).map (fun n => decide ((cutsL ws.length S).getD n 0 ≤ i)) = (List.range (cnt S ws.length + 1)).map (fun n => decide (n ≤ cnt S i)) := List.map_congr_left fun n hn => by
        have := List.mem_range.mp hn
        exact decide_eq_decide.mpr (cuts_le_iff hi (cut_getD (by omega)))
      have evT : ∀ σ : L2.St, σ[0]? = some (some (.ref a)) → σ[2]? = some (some (.int (cnt S ws.length : Nat))) → σ[3]? = some (some (.int ((0 : Int) + (i : Int)))) → σ[4]? = some (some (.int (cnt S i : Nat))) → 5 < σ.length →
          EvT (tTest (tOp (rNeD K) (tLc (iRng1 (tCons (tOp (rI0 fun i j => .int (i + j)) (tVar 2) (tC (.int 1))) tNil)) (gName 5) tYes (tOp (rI0 fun i j => .bl (decide (i ≤ j))) (tMeth CE "cut_behind" (spCutB CW CE) [] E0 (tVar 0) (tCons (tVar 5) tNil)) (tVar 3)) [5]) (tLc (iRng1 (tCons (tOp (rI0 fun i j => .int (i + j)) (tVar 2) (tC (.int 1))) tNil)) (gName 5) tYes (tOp (rI0 fun i j => .bl (decide (i ≤ j))) (tVar 5) (tVar 4)) [5]))) σ H' false := by
       intro σ s0 s2 s3 s4 sl
       rw [z] at s3
       have hlen : Ev (tOp (rI0 fun i j => .int (i + j)) (tVar 2) (tC (.int 1))) σ H' (.int ((cnt S ws.length : Nat) + 1)) := ev_op (ev_var s2) ev_c rv_I0
       have zn : ((cnt S ws.length : Int) + 1).toNat = cnt S ws.length + 1 := by omega
       have l1 : EvL (tLc (iRng1 (tCons (tOp (rI0 fun i j => .int (i + j)) (tVar 2) (tC (.int 1))) tNil)) (gName 5) tYes (tOp (rI0 fun i j => .bl (decide (i ≤ j))) (tMeth CE "cut_behind" (spCutB CW CE) [] E0 (tVar 0) (tCons (tVar 5) tNil)) (tVar 3)) [5]) σ H' (((List.range (cnt S ws.length + 1)).map (fun n => decide ((cutsL ws.length S).getD n 0 ≤ i))).map V.bl) := by
         have := el_lcR1 (t := tYes) (te := (tOp (rI0 fun i j => .bl (decide (i ≤ j))) (tMeth CE "cut_behind" (spCutB CW CE) [] E0 (tVar 0) (tCons (tVar 5) tNil)) (tVar 3))) (vs := [5]) (j := 5) (fun _ => true) (fun n => .bl (decide ((cutsL ws.length S).getD n 0 ≤ i))) (ea_cons hlen ea_nil) ⟨by omega, by omega⟩ (fun x => wipe1 σ 5 x) (fun n H1 _ _ => et_yes) (fun n H1 e1 hn _ => ?_)
         · rw [given_all fun _ _ => rfl, zn] at this
           rw [List.map_map]
           exact this
         · refine ev_is (ev_op (evCut _ H1 n (Same.trans e e1) (wv (by decide) s0) (wj sl) (by omega)) (ev_var (wv (by decide) s3)) rv_I0) ?_
           congr 1
           exact decide_eq_decide.mpr (by omega)
       have l2 : EvL (tLc (iRng1 (tCons (tOp (rI0 fun i j => .int (i + j)) (tVar 2) (tC (.int 1))) tNil)) (gName 5) tYes (tOp (rI0 fun i j => .bl (decide (i ≤ j))) (tVar 5) (tVar 4)) [5]) σ H' (((List.range (cnt S ws.length + 1)).map (fun n => decide (n ≤ cnt S i))).map V.bl) := by
         have := el_lcR1 (t := tYes) (te := (tOp (rI0 fun i j => .bl (decide (i ≤ j))) (tVar 5) (tVar 4))) (vs := [5]) (j := 5) (fun _ => true) (fun n => .bl (decide (n ≤ cnt S i))) (ea_cons hlen ea_nil) ⟨by omega, by omega⟩ (fun x => wipe1 σ 5 x) (fun n H1 _ _ => et_yes) (fun n H1 e1 hn _ => ?_)
         · rw [given_all fun _ _ => rfl, zn] at this
           rw [List.map_map]
           exact this
         · refine ev_is (ev_op (ev_var (wj sl)) (ev_var (wv (by decide) s4)) rv_I0) ?_
           congr 1
           exact decide_eq_decide.mpr (by omega)
       rw [hb] at l1
       exact et_test (ev_opLL l1 l2 fun p q H1 hp hq _ => rv_neB hp hq)
      dsimp only [gName]
      refine s_when (b := false) (evT _ rfl rfl rfl rfl (by show 5 < 6; decide)) (fun h => nomatch h) fun _ H2 e2 => ?_
      exact ⟨_, _, rfl, Same.trans e e2⟩
    · rintro σ' H' ⟨u, v, rfl, e⟩
      have evT : ∀ σ : L2.St, σ[0]? = some (some (.ref a)) → σ[2]? = some (some (.int (cnt S ws.length : Nat))) → 5 < σ.length →
          Ev (tOp (rEqD K) (tLc (iRng1 (tCons (tOp (rI0 fun i j => .int (i + j)) (tVar 2) (tC (.int 1))) tNil)) (gName 5) tYes (tMeth CE "count_at" (spCountAt CW CE) [] E0 (tVar 0) (tCons (tMeth CE "cut_behind" (spCutB CW CE) [] E0 (tVar 0) (tCons (tVar 5) tNil)) tNil)) [5]) (tLstRg (tRg1 (tOp (rI0 fun i j => .int (i + j)) (tVar 2) (tC (.int 1)))))) σ H' (.bl true) := by
        intro σ s0 s2 sl
        have hlen : ∀ H1, Ev (tOp (rI0 fun i j => .int (i + j)) (tVar 2) (tC (.int 1))) σ H1 (.int ((cnt S ws.length : Nat) + 1)) := fun H1 => ev_op (ev_var s2) ev_c rv_I0
        have zn : ((cnt S ws.length : Int) + 1).toNat = cnt S ws.length + 1 := by omega
        have l1 : EvL (tLc (iRng1 (tCons (tOp (rI0 fun i j => .int (i + j)) (tVar 2) (tC (.int 1))) tNil)) (gName 5) tYes (tMeth CE "count_at" (spCountAt CW CE) [] E0 (tVar 0) (tCons (tMeth CE "cut_behind" (spCutB CW CE) [] E0 (tVar 0) (tCons (tVar 5) tNil)) tNil)) [5]) σ H' (nts (List.range (cnt S ws.length + 1))) := by
          have := el_lcR1 (t := tYes) (te := (tMeth CE "count_at" (spCountAt CW CE) [] E0 (tVar 0) (tCons (tMeth CE "cut_behind" (spCutB CW CE) [] E0 (tVar 0) (tCons (tVar 5) tNil)) tNil))) (vs := [5]) (j := 5) (fun _ => true) (fun n => .int (n : Nat)) (ea_cons (hlen H') ea_nil) ⟨by omega, by omega⟩ (fun x => wipe1 σ 5 x) (fun n H1 _ _ => et_yes) (fun n H1 e1 hn _ => ?_)
          · rw [given_all fun _ _ => rfl, zn] at this
            exact this
          · have hn : n ≤ cnt S ws.length := by omega
            have e2 := Same.trans e e1
            have hx := cnt_cuts (cut_getD hn)
            intro H2 e3 Q q
            have e4 : Same H H2 := Same.trans e2 e3
            refine ⟨_, wv (by decide) s0, a, dx, _, rfl, e4 _ _ h1, nol (by decide +kernel) (by decide +kernel) (by decide +kernel) (by decide +kernel), ?_⟩
            refine evCut _ H2 n e4 (wv (by decide) s0) (wj sl) hn H2 (Ex.refl H2) _ fun H3 e5 => ?_
            have e6 : Same H H3 := Same.trans e4 e5
            refine ⟨a, wk, _, nm, ws, S, rfl, he.same e6, hl1, hx.1, ?_⟩
            rw [hx.2]
            exact q H3 e5
        have l2 : EvL (tLstRg (tRg1 (tOp (rI0 fun i j => .int (i + j)) (tVar 2) (tC (.int 1))))) σ H' (nts (List.range (cnt S ws.length + 1))) := by
          have := el_rg (hlen H') ⟨by omega, by omega⟩
          rw [zn] at this
          exact this
        exact ev_opLL l1 l2 fun p q H1 hp hq _ => rv_eqN hp hq
      exact s_ret (evT _ rfl rfl (by show 5 < 6; decide)) fun H2 e2 => k H2 (Same.trans e e2)
end
end Lm

namespace Lm
open PySem L2 Evl
def refs (l : List Addr) : List V := l.map V.ref
theorem refs_len (l : List Addr) : (refs l).length = l.length := List.length_map ..
theorem refs_at {l : List Addr} {i : Nat} {a : Addr} (h : l[i]? = some a) : (refs l)[i]? = some (.ref a) := by
  unfold refs
  rw [List.getElem?_map, h]
  rfl
theorem refs_inv {l : List Addr} {i : Nat} {x : V} (h : (refs l)[i]? = some x) : ∃ a, l[i]? = some a ∧ x = .ref a := by
  unfold refs at h
  rw [List.getElem?_map] at h
  cases e : l[i]? with
  | none => rw [e] at h; cases h
  | some a => rw [e] at h; exact ⟨a, rfl, (Option.some.inj h).symm⟩
/-- the editions, and what their walks tell -/
structure Eds (CW CE : Addr) (H : Hp) (ws : List Str) (es : List Addr) (Ss : List (Nat → Bool)) : Prop where
  len : es.length = Ss.length
  at_ : ∀ (i : Nat) e S, es[i]? = some e → Ss[i]? = some S → ∃ wk, EdAt CW CE H e wk "a" ws S
structure Tls (H : Hp) (N : Nat) (ps : List Addr) (Ss : List (Nat → Bool)) : Prop where
  len : ps.length = Ss.length
  at_ : ∀ (i : Nat) p S, ps[i]? = some p → Ss[i]? = some S → H p = some (.lst (nts (kerL N S)))
theorem Eds.same {CW CE : Addr} {H H' : Hp} {ws : List Str} {es : List Addr} {Ss : List (Nat → Bool)} (k : Eds CW CE H ws es Ss) (e : Same H H') : Eds CW CE H' ws es Ss :=
  ⟨k.len, fun i x S h1 h2 => let ⟨wk, h⟩ := k.at_ i x S h1 h2; ⟨wk, h.same e⟩⟩
theorem Tls.same {H H' : Hp} {N : Nat} {es : List Addr} {Ss : List (Nat → Bool)} (k : Tls H N es Ss) (e : Same H H') : Tls H' N es Ss :=
  ⟨k.len, fun i x S h1 h2 => e _ _ (k.at_ i x S h1 h2)⟩
theorem wipe2 (σ : L2.St) {i j : Nat} (h : i ≠ j) (x y : Option V) : wipe (((wipe σ [i, j]).set i x).set j y) [i, j] = wipe σ [i, j] := by
  show ((((((σ.set j none).set i none).set i x).set j y).set j none).set i none) = ((σ.set j none).set i none)
  rw [List.set_set, List.set_set, List.set_comm _ _ (Ne.symm h), List.set_set, List.set_comm _ _ h, List.set_set, List.set_comm _ _ (Ne.symm h)]
theorem w2o {σ : L2.St} {i j k : Nat} {x y : Option V} {v : V} (h1 : k ≠ i) (h2 : k ≠ j) (hk : σ[k]? = some (some v)) : (((wipe σ [i, j]).set i x).set j y)[k]? = some (some v) := by
  show ((((σ.set j none).set i none).set i x).set j y)[k]? = _
  rw [List.getElem?_set_ne (Ne.symm h2), List.getElem?_set_ne (Ne.symm h1), List.getElem?_set_ne (Ne.symm h1), List.getElem?_set_ne (Ne.symm h2)]
  exact hk
theorem w2i {σ : L2.St} {i j : Nat} {x y : Option V} (h : i ≠ j) (hl : i < σ.length) : (((wipe σ [i, j]).set i x).set j y)[i]? = some x := by
  show ((((σ.set j none).set i none).set i x).set j y)[i]? = _
  rw [List.getElem?_set_ne (Ne.symm h), List.getElem?_set_self (by simpa using hl)]
theorem w2j {σ : L2.St} {i j : Nat} {x y : Option V} (hl : j < σ.length) : (((wipe σ [i, j]).set i x).set j y)[j]? = some y := by
  show ((((σ.set j none).set i none).set i x).set j y)[j]? = _
  rw [List.getElem?_set_self (by simpa using hl)]
theorem at_some {α : Type} {l : List α} {i : Nat} (h : i < l.length) : ∃ x, l[i]? = some x := ⟨_, List.getElem?_eq_getElem h⟩
section
variable {CW CE : Addr} {K : PySem.W.Frag} {σ : L2.St} {H : Hp} {ws : List Str} {es ps : List Addr} {Ss : List (Nat → Bool)} {m tl : Addr}
/-- told -/
theorem told_ok (h12 : σ[12]? = some (some (.ref m))) (h6 : σ[6]? = some (some (.int (ws.length : Nat)))) (sl : 15 < σ.length) (hw : WOk ws) (hm : H m = some (.lst (refs es))) (he : Eds CW CE H ws es Ss) (hl : es.length ≤ 100) (Q : VK)
    (k : ∀ p ps H', H p = none → Same H H' → H' p = some (.lst (refs ps)) → Tls H' ws.length ps Ss → Q (.ref p) H') : (tLc (iList K (tVar 12)) (gName 15) tYes (tCall (spRow CW CE) [] E0 (tCons (tVar 15) (tCons (tVar 6) tNil))) [15]) σ H Q := by
  refine ⟨_, h12, m, rfl, ⟨_, SqL.of hm⟩, fun D nD => ?_⟩
  refine lc_list (K := K) (a := m) (xs := refs es) (fun i H' => Same H H' ∧ ∃ ps : List Addr, ps.length = i ∧ H' D = some (.lst (refs ps)) ∧ ∀ (j : Nat) p S, ps[j]? = some p → Ss[j]? = some S → H' p = some (.lst (nts (kerL ws.length S)))) ⟨Same.upd' nD, [], rfl, upd_same, fun j p S h _ => by simp at h⟩ (fun i H' _ p => SqL.of (p.1 _ _ hm)) ?_ ?_
  · rintro i x H' hx ⟨e, ps, hps, hD, hp⟩
    obtain ⟨a, ha, rfl⟩ := refs_inv hx
    obtain ⟨S, hS⟩ : ∃ S, Ss[i]? = some S := at_some (by rw [← he.len]; exact (List.getElem?_eq_some_iff.mp ha).1)
    obtain ⟨wk, hed⟩ := he.at_ i a S ha hS
    have hi : i < es.length := (List.getElem?_eq_some_iff.mp ha).1
    refine ⟨wipe1 σ 15 _, _, wj sl, _, wv (by decide) h6, a, wk, ws.length, "a", ws, S, rfl, hed.same e, hw, rfl, fun p H2 np e2 hp2 => ?_⟩
    have hpD : p ≠ D := (ne_of_none hD np).symm
    have e3 : Same H H2 := Same.trans e e2
    refine ⟨_, e2 _ _ hD, small1000 (by rw [refs_len]; omega), Same.mut e3 nD, ps ++ [p], by simp [hps], ?_, ?_⟩
    · rw [upd_same]
      simp [refs]
    · intro j q T hq hT
      rcases Nat.lt_or_ge j ps.length with hj | hj
      · rw [List.getElem?_append_left hj] at hq
        have := hp j q T hq hT
        rw [upd_ne (ne_of this hD (by
          intro z
          injection z with z
          have z2 := congrArg List.length z
          rw [nts_len, kerL_len, refs_len] at z2
          have h0 : (nts (kerL ws.length T))[0]? = (refs ps)[0]? := by rw [z]
          rw [nts_at (kerL_at T (Nat.zero_le _))] at h0
          obtain ⟨b, _, hb⟩ := refs_inv h0.symm
          cases hb))]
        exact e2 _ _ this
      · rw [List.getElem?_append_right hj] at hq
        have hj2 : j = ps.length := by
          have := (List.getElem?_eq_some_iff.mp hq).1
          simp at this
          omega
        subst hj2
        simp at hq
        subst hq
        rw [hps, hS] at hT
        cases hT
        rw [upd_ne hpD]
        exact hp2
  · rintro H' ⟨e, ps, hps, hD, hp⟩
    rw [refs_len] at hps
    exact k D ps H' nD e hD ⟨by rw [hps, he.len], hp⟩
/-- all are kernels -/
theorem isk_ok (h12 : σ[12]? = some (some (.ref m))) (h13 : σ[13]? = some (some (.ref tl))) (h3 : ∃ r, σ[3]? = some (some (.ref r)) ∧ H r = some (.lst (ws.map V.str))) (sl : 16 < σ.length) (hw : WOk ws) (hm : H m = some (.lst (refs es))) (ht : H tl = some (.lst (refs ps)))
    (he : Eds CW CE H ws es Ss) (hp : Tls H ws.length ps Ss) (hl : es.length ≤ 100) : EvT (tNot (tB (tCB (rAll K) (tCons (tLc (iZip K (tCons (tVar 12) (tCons (tVar 13) tNil))) (gTup K 2 (gCons (gName 15) (gCons (gName 16) gNil))) tYes (tCall (spIsK CW CE) [] E0 (tCons (tVar 15) (tCons (tVar 3) (tCons (tVar 16) tNil)))) [15, 16]) tNil)))) σ H false := by
  intro H1 e1 Q q
  obtain ⟨r, hr3, hr⟩ := h3
  have hlen : (refs es).length = (refs ps).length := by rw [refs_len, refs_len, he.len, hp.len]
  refine ⟨_, h12, _, h13, m, tl, _, _, rfl, SqL.of (e1 _ _ hm), SqL.of (e1 _ _ ht), fun D nD => ?_⟩
  refine lc_it (walk_zip (n := es.length) (by rw [refs_len, refs_len, hp.len, ← he.len, Nat.min_self])) (fun i H' => Same H1 H' ∧ H' D = some (.lst ((List.replicate i true).map V.bl))) ⟨Same.upd' nD, upd_same⟩ (fun i H' _ p => ⟨SqL.of (p.1 _ _ (e1 _ _ hm)), SqL.of (p.1 _ _ (e1 _ _ ht))⟩) ?_ ?_
  · rintro i x H' H'' hi ⟨e, hD⟩ ⟨T', x1, x2, rfl, nT, rfl, hx1, hx2⟩
    obtain ⟨a, ha, rfl⟩ := refs_inv hx1
    obtain ⟨p, hpp, rfl⟩ := refs_inv hx2
    obtain ⟨S, hS⟩ : ∃ S, Ss[i]? = some S := at_some (by rw [← he.len]; exact hi)
    obtain ⟨wk, hed⟩ := he.at_ i a S ha hS
    have htl := hp.at_ i p S hpp hS
    have e3 : Same H (upd H' T' (.tup [.ref a, .ref p])) := Same.trans (Same.trans e1 e) (Same.upd' nT)
    have hTD : T' ≠ D := (ne_of_none hD nT).symm
    refine ⟨T', _, rfl, SqT.of upd_same, rfl, _, _, rfl, _, _, rfl, rfl, wipe2 σ (by decide) _ _, ?_⟩
    refine ⟨_, w2i (by decide) (by omega), _, w2o (by decide) (by decide) hr3, _, w2j sl, a, wk, r, p, "a", ws, S, rfl, hed.same e3, hw, e3 _ _ hr, e3 _ _ htl, fun H4 e4 => ?_⟩
    refine ⟨_, e4 _ _ (by rw [upd_ne hTD.symm]; exact hD), small1000 (by rw [List.length_map, List.length_replicate]; omega), Same.mut (Same.trans (Same.trans e (Same.upd' nT)) e4) nD, ?_⟩
    rw [upd_same, List.replicate_succ']
    simp
  · rintro H' ⟨e, hD⟩
    refine ⟨_, _, rfl, SqL.of hD, _, rfl, ?_⟩
    have e5 : (List.replicate es.length true).all id = true := by simp
    rw [e5]
    exact q H' e
end
end Lm

namespace Lm
open PySem L2 Evl
theorem ker_and_fix (A B : Nat → Bool) {x : Nat} : ker (fun i => A i && B i) x = x ↔ ker A x = x ∧ ker B x = x := by
  rw [ker_fix, ker_fix, ker_fix]
  constructor
  · rintro (h | ⟨d, h, hd⟩)
    · exact ⟨.inl h, .inl h⟩
    · have hd : A d = true ∧ B d = true := by simpa using hd
      exact ⟨.inr ⟨d, h, hd.1⟩, .inr ⟨d, h, hd.2⟩⟩
  · rintro ⟨h1 | ⟨d, h1, hd⟩, h2 | ⟨d', h2, hd'⟩⟩
    · exact .inl h1
    · exact .inl h1
    · exact .inl h2
    · have : d = d' := by omega
      subst this
      exact .inr ⟨d, h1, by simp [hd, hd']⟩
theorem map_getD {l : List Nat} : (List.range l.length).map (fun i => l.getD i 0) = l := by
  refine List.ext_getElem? fun i => ?_
  rw [List.getElem?_map]
  rcases Nat.lt_or_ge i l.length with h | h
  · rw [List.getElem?_range h]
    show some (l.getD i 0) = _
    rw [List.getD_eq_getElem?_getD, List.getElem?_eq_getElem h]
    rfl
  · rw [List.getElem?_eq_none (by simpa using h), List.getElem?_eq_none h]
    rfl
theorem given_list (l : List Nat) (p : Nat → Bool) (g : Nat → V) : given l.length (fun i => p (l.getD i 0)) (fun i => g (l.getD i 0)) = (l.filter p).map g := by
  conv => rhs; rw [← map_getD (l := l)]
  unfold given
  rw [List.filter_map, List.map_map]
  rfl
def shd (N : Nat) (A B : Nat → Bool) : List Nat := (List.range (N + 1)).filter fun k => decide (ker A k = k) && decide (ker B k = k)
theorem iNe {a b : Nat} : decide (V.int (a : Nat) = V.int (b : Nat)) = decide (a = b) := by
  by_cases h : a = b
  · subst h; simp
  · rw [decide_eq_false h]
    exact decide_eq_false fun z => h (by have := V.int.inj z; omega)
section
variable {CW CE : Addr} {K : PySem.W.Frag} {σ : L2.St} {H : Hp} {ws : List Str} {es ps : List Addr} {Ss : List (Nat → Bool)} {m tl N : Nat} {A B : Nat → Bool}
/-- told[i][k] -/
theorem ev_told {S : Nat → Bool} {p : Addr} {te tk : TE} {i : Nat} {c : Nat} (ht : H tl = some (.lst (refs ps))) (hi : ps[i]? = some p) (hp : H p = some (.lst (nts (kerL N S)))) (h : Ev te σ H (.ref tl)) (hk : Ev tk σ H (.int (c : Nat))) (hc : c ≤ N) :
    Ev (tOp (rIxL K) (tOp (rIxL K) te (tC (.int (i : Nat)))) tk) σ H (.int (ker S c : Nat)) :=
  ev_op (ev_op h ev_c (rv_ixL (SqL.of ht) (atI_nat (refs_at hi)))) hk (rv_ixL (SqL.of hp) (atI_nat (nts_at (kerL_at S hc))))
theorem far1 (h6 : σ[6]? = some (some (.int (N : Nat)))) {H : Hp} : Ev (tOp (rI0 fun i j => .int (i + j)) (tVar 6) (tC (.int 1))) σ H (.int ((N : Nat) + 1)) := ev_op (ev_var h6) ev_c rv_I0
theorem zN : ((N : Int) + 1).toNat = N + 1 := by omega
/-- the row of what is joined -/
theorem chk3 {p0 p1 p3 : Addr} (h13 : σ[13]? = some (some (.ref tl))) (h6 : σ[6]? = some (some (.int (N : Nat)))) (sl : 21 < σ.length) (hN : N ≤ 60) (ht : H tl = some (.lst (refs ps))) (hl : ps.length ≤ 100) (i0 : ps[0]? = some p0) (i1 : ps[1]? = some p1) (i3 : ps[3]? = some p3)
    (g0 : H p0 = some (.lst (nts (kerL N A)))) (g1 : H p1 = some (.lst (nts (kerL N B)))) (g3 : H p3 = some (.lst (nts (kerL N fun i => A i || B i)))) :
    EvT (tTest (tOp (rNeD K) (tOp (rIxL K) (tVar 13) (tC (.int 3))) (tLc (iRng1 (tCons (tOp (rI0 fun i j => .int (i + j)) (tVar 6) (tC (.int 1))) tNil)) (gName 20) tYes (tCB (rMax K) (tCons (tLc (iList K (tSl (rSlL K) (tVar 13) tNoPart (tPart (tC (.int 2))))) (gName 16) tYes (tCB rInt (tCons (tOp (rIxL K) (tVar 16) (tVar 20)) tNil)) [16]) tNil)) [20]))) σ H false := by
  have hc : cutV (refs ps) none (some 2) = [V.ref p0, V.ref p1] := by
    have e : (refs ps).length = ps.length := refs_len ps
    have h2 : 2 ≤ ps.length := (List.getElem?_eq_some_iff.mp i1).1
    unfold cutV
    rw [HT.sIx_none, show (some (2 : Int)) = some ((2 : Nat) : Int) from rfl, HT.sIx_nat, List.drop_zero, e, Nat.min_eq_left h2, Nat.sub_zero]
    match ps, i0, i1 with
    | a :: b :: r, h0, h1 =>
      cases h0
      cases h1
      rfl
  have l2 : EvL (tLc (iRng1 (tCons (tOp (rI0 fun i j => .int (i + j)) (tVar 6) (tC (.int 1))) tNil)) (gName 20) tYes (tCB (rMax K) (tCons (tLc (iList K (tSl (rSlL K) (tVar 13) tNoPart (tPart (tC (.int 2))))) (gName 16) tYes (tCB rInt (tCons (tOp (rIxL K) (tVar 16) (tVar 20)) tNil)) [16]) tNil)) [20]) σ H (nts (kerL N fun i => A i || B i)) := by
    have := el_lcR1 (t := tYes) (te := (tCB (rMax K) (tCons (tLc (iList K (tSl (rSlL K) (tVar 13) tNoPart (tPart (tC (.int 2))))) (gName 16) tYes (tCB rInt (tCons (tOp (rIxL K) (tVar 16) (tVar 20)) tNil)) [16]) tNil))) (vs := [20]) (j := 20) (fun _ => true) (fun c => .int (ker (fun i => A i || B i) c : Nat)) (ea_cons (far1 (H := H) h6) ea_nil) ⟨by omega, by omega⟩ (fun x => wipe1 σ 20 x) (fun n H1 _ _ => et_yes) (fun c H1 e1 hc1 _ => ?_)
    · rw [given_all fun _ _ => rfl, zN] at this
      unfold nts kerL
      rw [List.map_map]
      exact this
    · have hcN : c ≤ N := by omega
      have inner := el_lcNL (K := K) (tl := tSl (rSlL K) (tVar 13) tNoPart (tPart (tC (.int 2)))) (t := tYes) (te := (tCB rInt (tCons (tOp (rIxL K) (tVar 16) (tVar 20)) tNil))) (vs := [16]) (j := 16) (σ := (wipe σ [20]).set 20 (some (.int (c : Int)))) (H := H1) (xs := [V.ref p0, V.ref p1]) (fun _ => true) (fun i => .int ((if i = 0 then ker A c else ker B c : Nat) : Int))
        (by rw [← hc]; exact el_sl (K := K) (ev_var (wv (by decide) h13)) eo_none (eo_some ev_c) (SqL.of (e1 _ _ ht))) (by show 2 ≤ 40000; decide) (fun x => wipe1 _ 16 x) (fun i x H2 _ _ => et_yes) (fun i x H2 e2 hx _ => ?_)
      · rw [given_all fun _ _ => rfl] at inner
        have e5 : (List.range [V.ref p0, V.ref p1].length).map (fun i => V.int ((if i = 0 then ker A c else ker B c : Nat) : Int)) = ([(ker A c : Int), (ker B c : Int)]).map V.int := rfl
        rw [e5] at inner
        rw [ker_or]
        refine ev_max inner ?_ ?_
        · rcases Nat.le_total (ker A c) (ker B c) with h | h
          · rw [Nat.max_eq_right h]; simp
          · rw [Nat.max_eq_left h]; simp
        · intro x hx
          simp at hx
          rcases hx with rfl | rfl <;> omega
      · refine ev_int ?_
        have s20 : ((wipe ((wipe σ [20]).set 20 (some (.int (c : Int)))) [16]).set 16 (some x))[20]? = some (some (.int (c : Int))) := wv (by decide) (wj (by omega))
        have s16 : 16 < ((wipe σ [20]).set 20 (some (V.int (c : Int)))).length := by
          show 16 < ((σ.set 20 none).set 20 (some (V.int (c : Int)))).length
          simp; omega
        match i, hx with
        | 0, hx =>
          cases hx
          exact ev_op (ev_var (wj s16)) (ev_var s20) (rv_ixL (SqL.of (e2 _ _ (e1 _ _ g0))) (atI_nat (nts_at (kerL_at A hcN))))
        | 1, hx =>
          cases hx
          exact ev_op (ev_var (wj s16)) (ev_var s20) (rv_ixL (SqL.of (e2 _ _ (e1 _ _ g1))) (atI_nat (nts_at (kerL_at B hcN))))
  refine et_test (ev_opL (ev_op (ev_var h13) ev_c (rv_ixL (SqL.of ht) (atI_nat (refs_at i3)))) l2 fun p H1 hp e1 => ?_)
  exact rv_neN (e1 _ _ g3) hp
/-- the cuts at which both stand -/
theorem shd_ok {p0 p1 : Addr} (h13 : σ[13]? = some (some (.ref tl))) (h6 : σ[6]? = some (some (.int (N : Nat)))) (sl : 21 < σ.length) (hN : N ≤ 60) (ht : H tl = some (.lst (refs ps))) (i0 : ps[0]? = some p0) (i1 : ps[1]? = some p1)
    (g0 : H p0 = some (.lst (nts (kerL N A)))) (g1 : H p1 = some (.lst (nts (kerL N B)))) :
    EvL (tLc (iRng1 (tCons (tOp (rI0 fun i j => .int (i + j)) (tVar 6) (tC (.int 1))) tNil)) (gName 20) (tAnd (tTest (tOp rEq (tOp (rIxL K) (tOp (rIxL K) (tVar 13) (tC (.int 0))) (tVar 20)) (tVar 20))) (tTest (tOp rEq (tOp (rIxL K) (tOp (rIxL K) (tVar 13) (tC (.int 1))) (tVar 20)) (tVar 20)))) (tVar 20) [20]) σ H (nts (shd N A B)) := by
  have := el_lcR1 (t := (tAnd (tTest (tOp rEq (tOp (rIxL K) (tOp (rIxL K) (tVar 13) (tC (.int 0))) (tVar 20)) (tVar 20))) (tTest (tOp rEq (tOp (rIxL K) (tOp (rIxL K) (tVar 13) (tC (.int 1))) (tVar 20)) (tVar 20))))) (te := tVar 20) (vs := [20]) (j := 20) (fun k => decide (ker A k = k) && decide (ker B k = k)) (fun c => .int (c : Nat)) (ea_cons (far1 (H := H) h6) ea_nil) ⟨by omega, by omega⟩ (fun x => wipe1 σ 20 x) (fun c H1 e1 hc1 => ?_) (fun c H1 e1 hc1 _ => ev_var (wj (by omega)))
  · rw [zN] at this
    exact this
  · have hcN : c ≤ N := by omega
    have hk : Ev (tVar 20) ((wipe σ [20]).set 20 (some (.int (c : Int)))) H1 (.int (c : Nat)) := ev_var (wj (by omega))
    have ht1 : Ev (tVar 13) ((wipe σ [20]).set 20 (some (.int (c : Int)))) H1 (.ref tl) := ev_var (wv (by decide) h13)
    refine et_and (et_test ?_) (fun _ => et_test ?_)
    · refine ev_is (ev_op (ev_told (i := 0) (e1 _ _ ht) i0 (e1 _ _ g0) ht1 hk hcN) hk (rv_eq rfl)) ?_
      rw [iNe]
    · refine ev_is (ev_op (ev_told (i := 1) (e1 _ _ ht) i1 (e1 _ _ g1) ht1 hk hcN) hk (rv_eq rfl)) ?_
      rw [iNe]
/-- the row of what both have -/
theorem chk5 {p2 sh : Addr} (h13 : σ[13]? = some (some (.ref tl))) (h14 : σ[14]? = some (some (.ref sh))) (h6 : σ[6]? = some (some (.int (N : Nat)))) (sl : 21 < σ.length) (hN : N ≤ 60) (ht : H tl = some (.lst (refs ps))) (i2 : ps[2]? = some p2)
    (g2 : H p2 = some (.lst (nts (kerL N fun i => A i && B i)))) (gs : H sh = some (.lst (nts (shd N A B)))) :
    EvT (tTest (tOp (rNeD K) (tOp (rIxL K) (tVar 13) (tC (.int 2))) (tLc (iRng1 (tCons (tOp (rI0 fun i j => .int (i + j)) (tVar 6) (tC (.int 1))) tNil)) (gName 20) tYes (tCB (rMax K) (tCons (tLc (iList K (tVar 14)) (gName 21) (tTest (tOp (rI0 fun i j => .bl (decide (i ≤ j))) (tVar 21) (tVar 20))) (tCB rInt (tCons (tVar 21) tNil)) [21]) tNil)) [20]))) σ H false := by
  have l2 : EvL (tLc (iRng1 (tCons (tOp (rI0 fun i j => .int (i + j)) (tVar 6) (tC (.int 1))) tNil)) (gName 20) tYes (tCB (rMax K) (tCons (tLc (iList K (tVar 14)) (gName 21) (tTest (tOp (rI0 fun i j => .bl (decide (i ≤ j))) (tVar 21) (tVar 20))) (tCB rInt (tCons (tVar 21) tNil)) [21]) tNil)) [20]) σ H (nts (kerL N fun i => A i && B i)) := by
    have := el_lcR1 (t := tYes) (te := (tCB (rMax K) (tCons (tLc (iList K (tVar 14)) (gName 21) (tTest (tOp (rI0 fun i j => .bl (decide (i ≤ j))) (tVar 21) (tVar 20))) (tCB rInt (tCons (tVar 21) tNil)) [21]) tNil))) (vs := [20]) (j := 20) (fun _ => true) (fun c => .int (ker (fun i => A i && B i) c : Nat)) (ea_cons (far1 (H := H) h6) ea_nil) ⟨by omega, by omega⟩ (fun x => wipe1 σ 20 x) (fun n H1 _ _ => et_yes) (fun c H1 e1 hc1 _ => ?_)
    · rw [given_all fun _ _ => rfl, zN] at this
      unfold nts kerL
      rw [List.map_map]
      exact this
    · have hcN : c ≤ N := by omega
      have hlen : (shd N A B).length ≤ N + 1 := Nat.le_trans (List.length_filter_le _ _) (by simp)
      have at_ : ∀ {i : Nat} {x : V}, (nts (shd N A B))[i]? = some x → x = .int ((shd N A B).getD i 0 : Nat) := by
        intro i x hx
        have hi : i < (shd N A B).length := by
          have := (List.getElem?_eq_some_iff.mp hx).1
          rw [nts_len] at this
          exact this
        rw [nts_at (List.getElem?_eq_getElem hi)] at hx
        rw [List.getD_eq_getElem?_getD, List.getElem?_eq_getElem hi]
        exact (Option.some.inj hx).symm
      have s20 : ∀ x, ((wipe ((wipe σ [20]).set 20 (some (.int (c : Int)))) [21]).set 21 (some x))[20]? = some (some (V.int (c : Int))) := fun x => wv (by decide) (wj (by omega))
      have s21 : 21 < ((wipe σ [20]).set 20 (some (V.int (c : Int)))).length := by
        show 21 < ((σ.set 20 none).set 20 (some (V.int (c : Int)))).length
        simp; omega
      have inner := el_lcL (K := K) (t := (tTest (tOp (rI0 fun i j => .bl (decide (i ≤ j))) (tVar 21) (tVar 20)))) (te := (tCB rInt (tCons (tVar 21) tNil))) (vs := [21]) (j := 21) (σ := (wipe σ [20]).set 20 (some (.int (c : Int)))) (H := H1) (a := sh) (xs := nts (shd N A B)) (fun i => decide ((shd N A B).getD i 0 ≤ c)) (fun i => .int ((shd N A B).getD i 0 : Nat))
        (ev_var (wv (by decide) h14)) (SqL.of (e1 _ _ gs)) (by rw [nts_len]; omega) (fun x => wipe1 _ 21 x) (fun i x H2 e2 hx => ?_) (fun i x H2 e2 hx _ => ?_)
      · rw [nts_len, given_list (shd N A B) (fun n => decide (n ≤ c)) (fun n => .int (n : Nat))] at inner
        have e5 : ((shd N A B).filter fun n => decide (n ≤ c)).map (fun n : Nat => V.int (n : Nat)) = (((shd N A B).filter fun n => decide (n ≤ c)).map fun n : Nat => (n : Int)).map V.int := by rw [List.map_map]; rfl
        rw [e5] at inner
        have hx1 := ker_le (fun i => A i && B i) c
        have hx2 := (ker_and_fix A B).mp (ker_idem (fun i => A i && B i) c)
        refine ev_max inner ?_ ?_
        · refine List.mem_map.mpr ⟨_, List.mem_filter.mpr ⟨List.mem_filter.mpr ⟨List.mem_range.mpr (by omega), ?_⟩, decide_eq_true hx1⟩, rfl⟩
          rw [decide_eq_true hx2.1, decide_eq_true hx2.2]
          rfl
        · intro x hx
          obtain ⟨y, hy, rfl⟩ := List.mem_map.mp hx
          obtain ⟨hy1, hy2⟩ := List.mem_filter.mp hy
          obtain ⟨_, hy3⟩ := List.mem_filter.mp hy1
          have hy3 : ker A y = y ∧ ker B y = y := by simpa using hy3
          have := ker_ge (of_decide_eq_true hy2) ((ker_and_fix A B).mpr hy3)
          omega
      · rw [at_ hx]
        refine et_test (ev_is (ev_op (ev_var (wj s21)) (ev_var (s20 _)) rv_I0) ?_)
        congr 1
        exact decide_eq_decide.mpr (by omega)
      · rw [at_ hx]
        exact ev_int (ev_var (wj s21))
  refine et_test (ev_opL (ev_op (ev_var h13) ev_c (rv_ixL (SqL.of ht) (atI_nat (refs_at i2)))) l2 fun p H1 hp e1 => ?_)
  exact rv_neN (e1 _ _ g2) hp
end
end Lm

namespace Lm
open PySem L2 Evl
theorem kerL_none (N : Nat) : kerL N (fun _ => false) = List.replicate (N + 1) 0 := by
  unfold kerL
  refine List.ext_getElem (by simp) fun i h1 h2 => ?_
  simp [ker_none]
theorem kerL_all (N : Nat) : kerL N (fun _ => true) = List.range (N + 1) := by
  unfold kerL
  refine List.ext_getElem (by simp) fun i h1 h2 => ?_
  simp [ker_all]
theorem flat_rep : ∀ n : Nat, (List.replicate n [V.int 0]).flatten = nts (List.replicate n 0)
  | 0 => rfl
  | n + 1 => by
    rw [List.replicate_succ, List.flatten_cons, flat_rep n, List.replicate_succ]
    rfl
section
variable {CW CE : Addr} {K : PySem.W.Frag} {σ : L2.St} {H : Hp} {ws : List Str} {es ps : List Addr} {Ss : List (Nat → Bool)} {m tl N : Nat} {A B : Nat → Bool}
theorem chk6 {p5 p6 : Addr} (h13 : σ[13]? = some (some (.ref tl))) (h6 : σ[6]? = some (some (.int (N : Nat)))) (hN : N ≤ 60) (ht : H tl = some (.lst (refs ps))) (i5 : ps[5]? = some p5) (i6 : ps[6]? = some p6)
    (g5 : H p5 = some (.lst (nts (kerL N fun _ => false)))) (g6 : H p6 = some (.lst (nts (kerL N fun _ => true)))) :
    EvT (tOr (tTest (tOp (rNeD K) (tOp (rIxL K) (tVar 13) (tC (.int 5))) (tOp rRep (tLst (tCons (tC (.int 0)) tNil)) (tOp (rI0 fun i j => .int (i + j)) (tVar 6) (tC (.int 1)))))) (tTest (tOp (rNeD K) (tOp (rIxL K) (tVar 13) (tC (.int 6))) (tLstRg (tRg1 (tOp (rI0 fun i j => .int (i + j)) (tVar 6) (tC (.int 1)))))))) σ H false := by
  have l1 : EvL (tOp rRep (tLst (tCons (tC (.int 0)) tNil)) (tOp (rI0 fun i j => .int (i + j)) (tVar 6) (tC (.int 1)))) σ H (nts (kerL N fun _ => false)) := by
    intro H1 e Q q
    refine ⟨by show 1 ≤ sizeLine; decide, fun l hl => ?_⟩
    refine ⟨_, h6, _, _, rfl, rfl, l, _, _, rfl, rfl, upd_same, by omega, by omega, ?_, fun p hp => ?_⟩
    · rw [zN]
      show 1 * (N + 1) ≤ sizeLine
      exact Nat.le_of_lt (small1000 (by omega))
    · rw [zN, flat_rep, ← kerL_none]
      have hpl : p ≠ l := (ne_of_none upd_same hp).symm
      refine q p _ ?_ ?_ upd_same
      · rw [← upd_ne (H := H1) (o := .lst [V.int 0]) hpl]; exact hp
      · exact Same.trans (Same.upd' hl) (Same.upd' hp)
  have l2 : EvL (tLstRg (tRg1 (tOp (rI0 fun i j => .int (i + j)) (tVar 6) (tC (.int 1))))) σ H (nts (kerL N fun _ => true)) := by
    rw [kerL_all]
    have := el_rg (far1 (H := H) h6) ⟨by omega, by omega⟩
    rw [zN] at this
    exact this
  refine et_is (et_or (et_test (b := false) (ev_opL (ev_op (ev_var h13) ev_c (rv_ixL (SqL.of ht) (atI_nat (refs_at i5)))) l1 fun p H1 hp e1 => rv_neN (e1 _ _ g5) hp)) fun _ => et_test (b := false) (ev_opL (ev_op (ev_var h13) ev_c (rv_ixL (SqL.of ht) (atI_nat (refs_at i6)))) l2 fun p H1 hp e1 => rv_neN (e1 _ _ g6) hp)) rfl
/-- is less -/
theorem less_ok {p q : Addr} (h16 : σ[16]? = some (some (.ref p))) (h18 : σ[18]? = some (some (.ref q))) (h6 : σ[6]? = some (some (.int (N : Nat)))) (sl : 21 < σ.length) (hN : N ≤ 60) (gp : H p = some (.lst (nts (kerL N A)))) (gq : H q = some (.lst (nts (kerL N B)))) :
    Ev (tCB (rAll K) (tCons (tLc (iRng1 (tCons (tOp (rI0 fun i j => .int (i + j)) (tVar 6) (tC (.int 1))) tNil)) (gName 20) tYes (tOp (rI0 fun i j => .bl (decide (i ≤ j))) (tOp (rIxL K) (tVar 16) (tVar 20)) (tOp (rIxL K) (tVar 18) (tVar 20))) [20]) tNil)) σ H (.bl ((idx N A).all B)) := by
  have l1 : EvL (tLc (iRng1 (tCons (tOp (rI0 fun i j => .int (i + j)) (tVar 6) (tC (.int 1))) tNil)) (gName 20) tYes (tOp (rI0 fun i j => .bl (decide (i ≤ j))) (tOp (rIxL K) (tVar 16) (tVar 20)) (tOp (rIxL K) (tVar 18) (tVar 20))) [20]) σ H (((List.range (N + 1)).map fun c => decide (ker A c ≤ ker B c)).map V.bl) := by
    have := el_lcR1 (t := tYes) (te := (tOp (rI0 fun i j => .bl (decide (i ≤ j))) (tOp (rIxL K) (tVar 16) (tVar 20)) (tOp (rIxL K) (tVar 18) (tVar 20)))) (vs := [20]) (j := 20) (fun _ => true) (fun c => .bl (decide (ker A c ≤ ker B c))) (ea_cons (far1 (H := H) h6) ea_nil) ⟨by omega, by omega⟩ (fun x => wipe1 σ 20 x) (fun n H1 _ _ => et_yes) (fun c H1 e1 hc1 _ => ?_)
    · rw [given_all fun _ _ => rfl, zN] at this
      rw [List.map_map]
      exact this
    · have hcN : c ≤ N := by omega
      have hk : Ev (tVar 20) ((wipe σ [20]).set 20 (some (.int (c : Int)))) H1 (.int (c : Nat)) := ev_var (wj (by omega))
      refine ev_is (ev_op (ev_op (ev_var (wv (by decide) h16)) hk (rv_ixL (SqL.of (e1 _ _ gp)) (atI_nat (nts_at (kerL_at A hcN))))) (ev_op (ev_var (wv (by decide) h18)) hk (rv_ixL (SqL.of (e1 _ _ gq)) (atI_nat (nts_at (kerL_at B hcN))))) rv_I0) ?_
      congr 1
      exact decide_eq_decide.mpr (by omega)
  refine ev_is (ev_all l1) ?_
  congr 1
  rw [Bool.eq_iff_iff, List.all_map, List.all_eq_true, List.all_eq_true]
  constructor
  · intro h i hi
    have hi := idx_mem.mp hi
    exact ker_sub.mpr (fun c hc => by have := h c (List.mem_range.mpr (by omega)); simpa using this) i hi.1 hi.2
  · intro h c hc
    have hc := List.mem_range.mp hc
    have := ker_sub.mp (fun i hi hA => h i (idx_mem.mpr ⟨hi, hA⟩)) c (by omega)
    simpa using this
end
section
variable {P : Program} {w : World} {K : PySem.W.Frag} {mg : Str → Option Value} {base : Heap} {f : Addr} {fd : FuncData}
def spLaw (K : PySem.W.Frag) : Sp := fun vs H Q _ => ∃ (a : Addr) (ns : List Int), vs = [.ref a] ∧ SqL K H a (ns.map V.int) ∧ ns.length ≤ 63 ∧ ∀ H', Q (.bl true) H'
structure EdSf (K : PySem.W.Frag) (C : Addr) : Prop where
  sf_Edition : PySem.W.selfFirst K C = true
abbrev s_law : Stmt := top 36
theorem sc_law : FnScope ["_law_script", "_law_state", "_law_turn", "_law_rows", "_law_base_here", "_law_twin", "_law_far", "_law_numbers", "_law_others", "_law_x", "_law_y", "_law_some", "_law_made", "_law_told", "_law_shared", "_law_one_here", "_law_row_here", "_law_other", "_law_more", "_law_is_less", "_law_k", "_law_n"] ["_law_script"] (defScope s_law) := ⟨rfl, rfl, rfl, by decide +kernel, rfl, by decide +kernel, by decide +kernel⟩
end
end Lm

namespace Lm
open PySem L2 Evl
structure TL (K : PySem.W.Frag) (mg : Str → Option Value) (C : Addr) : Prop extends Blt mg where
  sf_Edition : PySem.W.selfFirst K C = true
section
variable {P : Program} {w : World} {K : PySem.W.Frag} {mg : Str → Option Value} {base : Heap} {f : Addr} {fd : FuncData}
theorem sq_go {te : TE} {g : TG} {tz : TS} {D : Ends} {σ : L2.St} {H : Hp} (h : te σ H fun v H1 => g v σ H1 (tz D)) : tSeq (tAsg te g) tz D σ H := h
theorem ok_law {CW CE f1 f2 f3 f4 f5 f6 f7 f8 f9 g1 g2 g3 g4 g5 : Addr} {d1 d2 d3 d4 d5 d6 d7 d8 d9 b1 b2 b3 b4 b5 : FuncData} (F : Fun K "law" "law" s_law f fd) (T : TL K mg CE)
    (D_fresh : DefOk P w K mg base 1 "_law_fresh" f1 d1 ["_law_script"] (spFresh K)) (D_take : DefOk P w K mg base 2 "_law_take" f2 d2 ["_law_state", "_law_many"] spTake) (D_one : DefOk P w K mg base 3 "_law_one" f3 d3 ["_law_state", "_law_things"] (spOne K))
    (D_base : DefOk P w K mg base 4 "_law_base" f4 d4 ["_law_state", "_law_many"] (spBase CW)) (D_kept : DefOk P w K mg base 4 "_law_kept" f5 d5 ["_law_state", "_law_many"] spKept) (D_edition : DefOk P w K mg base 6 "_law_edition" f6 d6 ["_law_base_here", "_law_rows", "_law_numbers"] (spEdn CW CE))
    (D_row : DefOk P w K mg base 6 "_law_row" f7 d7 ["_law_made", "_law_far"] (spRow CW CE)) (D_is_kernel : DefOk P w K mg base 2 "_law_is_kernel" f8 d8 ["_law_made", "_law_rows", "_law_told"] (spIsK CW CE)) (D_counts_right : DefOk P w K mg base 5 "_law_counts_right" f9 d9 ["_law_made", "_law_far"] (spCR CW CE))
    (M_Edition_or : MetOk P w K mg base 6 CE "__or__" g1 b1 ["self", "other"] (spJoin CW CE fun a b => a || b)) (M_Edition_and : MetOk P w K mg base 6 CE "__and__" g2 b2 ["self", "other"] (spJoin CW CE fun a b => a && b)) (M_Edition_sub : MetOk P w K mg base 6 CE "__sub__" g3 b3 ["self", "other"] (spJoin CW CE fun a b => a && !b))
    (M_Edition_le : MetOk P w K mg base 4 CE "__le__" g4 b4 ["self", "other"] (spLe CW CE)) (M_Work_whole : MetOk P w K mg base 6 CW "whole" g5 b5 ["self"] (spWhole CW CE)) : FnOk P w K mg base CX0 7 f fd ["_law_script"] (spLaw K) := by
  refine F.ok sc_law (fun vs H Q E h => ?_) (fun cdv A outer s H vs Q E hr h => ?_)
  · obtain ⟨a, ns, rfl, _⟩ := h
    rfl
  · obtain ⟨a, ns, rfl, hS, hl, k⟩ := h
    refine ⟨_, (pss_cons (ps_set (i := 1) sc_law.nd rfl (by first | exact Or.inl rfl | exact Or.inr rfl) (pe_d D_fresh (hr.mono (by decide)) (pa_cons (pv 0) pa_nil)))
        (pss_cons (ps_for PassesOwn.never rfl (pi_range1 rfl T.b_range (pa_cons pe_int pa_nil)) (pg_name (i := 2) sc_law.nd rfl (by first | exact Or.inl rfl | exact Or.inr rfl)) (pss_cons (ps_asg (pe_d D_base (hr.mono (by decide)) (pa_cons (pv 1) (pa_cons (pe_d D_one (hr.mono (by decide)) (pa_cons (pv 1) (pa_cons (pe_tup (pa_cons pe_int (pa_cons pe_int (pa_cons pe_int (pa_cons pe_int (pa_cons pe_int (pa_cons pe_int (pa_cons pe_int pa_nil)))))))) pa_nil))) pa_nil))) (pg_tup rfl (pgs_cons (pg_name (i := 3) sc_law.nd rfl (by first | exact Or.inl rfl | exact Or.inr rfl)) (pgs_cons (pg_name (i := 4) sc_law.nd rfl (by first | exact Or.inl rfl | exact Or.inr rfl)) (pgs_cons (pg_name (i := 5) sc_law.nd rfl (by first | exact Or.inl rfl | exact Or.inr rfl)) pgs_nil)))))
        (pss_cons (ps_asg (pe_tup (pa_cons (pe_callB call_len_seq (by rfl) T.b_len PySem.boot_len (pa_cons (pv 3) pa_nil)) (pa_cons (pe_d D_kept (hr.mono (by decide)) (pa_cons (pv 1) (pa_cons (pe_callB call_len_seq (by rfl) T.b_len PySem.boot_len (pa_cons (pv 3) pa_nil)) pa_nil))) pa_nil))) (pg_tup rfl (pgs_cons (pg_name (i := 6) sc_law.nd rfl (by first | exact Or.inl rfl | exact Or.inr rfl)) (pgs_cons (pg_name (i := 7) sc_law.nd rfl (by first | exact Or.inl rfl | exact Or.inr rfl)) pgs_nil))))
        (pss_cons (ps_set (i := 8) sc_law.nd rfl (by first | exact Or.inl rfl | exact Or.inr rfl) (pe_d D_kept (hr.mono (by decide)) (pa_cons (pv 1) (pa_cons (pe_callB call_len_seq (by rfl) T.b_len PySem.boot_len (pa_cons (pv 3) pa_nil)) pa_nil))))
        (Evl.pss_cut (ps_if (pt_cmpR op_eq (pe_d D_take (hr.mono (by decide)) (pa_cons (pv 1) (pa_cons pe_int pa_nil))) pe_int (nomark _)) (pss_one (ps_setLc (i := 8) (own := [("_law_k", 20)]) (g := gName 20) (tt := (tTest (tOp (rIn K false) (tVar 20) (tVar 7)))) (te := (tVar 20)) rfl sc_law.nd rfl rfl (sw_true rfl rfl rfl (by decide +kernel)) (pi_list (pv 8)) (blkOk_by (own := [("_law_k", 20)]) (by kernel_rfl)) (fun _ _ _ _ _ => (pg_name (i := 20) sc_law.nd rfl (by first | exact Or.inl rfl | exact Or.inr rfl))) (fun _ _ _ _ _ => by exact (pts_one (pt_cmpR op_in_seq (pv 20) (pv 7) (by rfl)))) (fun _ _ _ _ _ => by exact (pv 20)))) pss_nil)
        (pss_cons (ps_par (i := 9) (j := 10) (by rfl) sc_law.nd rfl rfl (by decide) rfl rfl (pa_cons (pe_d D_edition (hr.mono (by decide)) (pa_cons (pv 4) (pa_cons (pv 3) (pa_cons (pv 7) pa_nil)))) (pa_cons (pe_d D_edition (hr.mono (by decide)) (pa_cons (pv 5) (pa_cons (pv 3) (pa_cons (pv 8) pa_nil)))) pa_nil)) (by rfl))
        (pss_cons (ps_set (i := 11) sc_law.nd rfl (by first | exact Or.inl rfl | exact Or.inr rfl) (pe_op (M_Edition_or.bin T.sf_Edition (hr.mono (by decide))) (pv 9) (pv 10)))
        (pss_cons (ps_set (i := 12) sc_law.nd rfl (by first | exact Or.inl rfl | exact Or.inr rfl) (pe_lst (pa_cons (pv 9) (pa_cons (pv 10) (pa_cons (pe_op (M_Edition_and.bin T.sf_Edition (hr.mono (by decide))) (pv 9) (pv 10)) (pa_cons (pv 11) (pa_cons (pe_op (M_Edition_sub.bin T.sf_Edition (hr.mono (by decide))) (pv 9) (pv 10)) (pa_cons (pe_d D_edition (hr.mono (by decide)) (pa_cons (pv 4) (pa_cons (pv 3) (pa_cons (pe_lst pa_nil) pa_nil)))) (pa_cons (pe_m0 M_Work_whole (hr.mono (by decide)) (pv 4)) pa_nil)))))))))
        (pss_cons (ps_set (i := 13) sc_law.nd rfl (by first | exact Or.inl rfl | exact Or.inr rfl) (pe_lc (own := [("_law_one_here", 15)]) (g := gName 15) (tt := tYes) (te := (tCall (spRow CW CE) [] E0 (tCons (tVar 15) (tCons (tVar 6) tNil)))) rfl sc_law.nd (pi_list (pv 12)) (blkOk_by (own := [("_law_one_here", 15)]) (by kernel_rfl)) (fun _ _ _ _ _ => (pg_name (i := 15) sc_law.nd rfl (by first | exact Or.inl rfl | exact Or.inr rfl))) (fun _ _ _ _ _ => pts_nil) (fun _ _ _ _ _ => by exact (pe_d D_row (hr.mono (by decide)) (pa_cons (pv 15) (pa_cons (pv 6) pa_nil))))))
        (pss_cons (ps_if (pt_not (pt_val (pe_callB (cr_all rfl) (by rfl) T.b_all (by decide +kernel) (by exact (pa_cons (pe_lc (own := [("_law_one_here", 15), ("_law_row_here", 16)]) (g := gTup K 2 (gCons (gName 15) (gCons (gName 16) gNil))) (tt := tYes) (te := (tCall (spIsK CW CE) [] E0 (tCons (tVar 15) (tCons (tVar 3) (tCons (tVar 16) tNil))))) rfl sc_law.nd (pi_zip rfl T.b_zip (pa_cons (pv 12) (pa_cons (pv 13) pa_nil))) (blkOk_by (own := [("_law_one_here", 15), ("_law_row_here", 16)]) (by kernel_rfl)) (fun _ _ _ _ _ => (pg_tup rfl (pgs_cons (pg_name (i := 15) sc_law.nd rfl (by first | exact Or.inl rfl | exact Or.inr rfl)) (pgs_cons (pg_name (i := 16) sc_law.nd rfl (by first | exact Or.inl rfl | exact Or.inr rfl)) pgs_nil)))) (fun _ _ _ _ _ => pts_nil) (fun _ _ _ _ _ => by exact (pe_d D_is_kernel (hr.mono (by decide)) (pa_cons (pv 15) (pa_cons (pv 3) (pa_cons (pv 16) pa_nil)))))) pa_nil))))) (pss_one (ps_ret pe_bl)) pss_nil)
        (pss_cons (ps_if (pt_cmpR (op_neD hr.units) (pe_ix ix_list (pv 13) pe_int (fun _ _ => rfl)) (pe_lc (own := [("_law_k", 20)]) (g := gName 20) (tt := tYes) (te := (tCB (rMax K) (tCons (tLc (iList K (tSl (rSlL K) (tVar 13) tNoPart (tPart (tC (.int 2))))) (gName 16) tYes (tCB rInt (tCons (tOp (rIxL K) (tVar 16) (tVar 20)) tNil)) [16]) tNil))) rfl sc_law.nd (pi_range1 rfl T.b_range (pa_cons (pe_op op_add (pv 6) pe_int) pa_nil)) (blkOk_by (own := [("_law_k", 20)]) (by kernel_rfl)) (fun _ _ _ _ _ => (pg_name (i := 20) sc_law.nd rfl (by first | exact Or.inl rfl | exact Or.inr rfl))) (fun _ _ _ _ _ => pts_nil) (fun _ _ _ _ _ => by exact (pe_callB (cr_max rfl) (by rfl) T.b_max (by decide +kernel) (by exact (pa_cons (pe_lc (own := [("_law_row_here", 16)]) (g := gName 16) (tt := tYes) (te := (tCB rInt (tCons (tOp (rIxL K) (tVar 16) (tVar 20)) tNil))) rfl sc_law.nd (pi_list (pe_slice sl_list (pv 13) po_none (po_some pe_int))) (blkOk_by (own := [("_law_row_here", 16)]) (by kernel_rfl)) (fun _ _ _ _ _ => (pg_name (i := 16) sc_law.nd rfl (by first | exact Or.inl rfl | exact Or.inr rfl))) (fun _ _ _ _ _ => pts_nil) (fun _ _ _ _ _ => by exact (pe_callTy call_int1 (by rfl) T.b_int (by decide +kernel) (pa_cons (pe_ix ix_list (pv 16) (pv 20) (fun _ _ => rfl)) pa_nil)))) pa_nil))))) (nomark _)) (pss_one (ps_ret pe_bl)) pss_nil)
        (pss_cons (ps_set (i := 14) sc_law.nd rfl (by first | exact Or.inl rfl | exact Or.inr rfl) (pe_lc (own := [("_law_k", 20)]) (g := gName 20) (tt := (tAnd (tTest (tOp rEq (tOp (rIxL K) (tOp (rIxL K) (tVar 13) (tC (.int 0))) (tVar 20)) (tVar 20))) (tTest (tOp rEq (tOp (rIxL K) (tOp (rIxL K) (tVar 13) (tC (.int 1))) (tVar 20)) (tVar 20))))) (te := (tVar 20)) rfl sc_law.nd (pi_range1 rfl T.b_range (pa_cons (pe_op op_add (pv 6) pe_int) pa_nil)) (blkOk_by (own := [("_law_k", 20)]) (by kernel_rfl)) (fun _ _ _ _ _ => (pg_name (i := 20) sc_law.nd rfl (by first | exact Or.inl rfl | exact Or.inr rfl))) (fun _ _ _ _ _ => by exact (pts_one (PW.pt (pw_and (pt_cmpR op_eq (pe_ix ix_list (pe_ix ix_list (pv 13) pe_int (fun _ _ => rfl)) (pv 20) (fun _ _ => rfl)) (pv 20) (nomark _)) (pw_and1 (pt_cmpR op_eq (pe_ix ix_list (pe_ix ix_list (pv 13) pe_int (fun _ _ => rfl)) (pv 20) (fun _ _ => rfl)) (pv 20) (nomark _))))))) (fun _ _ _ _ _ => by exact (pv 20))))
        (pss_cons (ps_if (pt_cmpR (op_neD hr.units) (pe_ix ix_list (pv 13) pe_int (fun _ _ => rfl)) (pe_lc (own := [("_law_k", 20)]) (g := gName 20) (tt := tYes) (te := (tCB (rMax K) (tCons (tLc (iList K (tVar 14)) (gName 21) (tTest (tOp (rI0 fun i j => .bl (decide (i ≤ j))) (tVar 21) (tVar 20))) (tCB rInt (tCons (tVar 21) tNil)) [21]) tNil))) rfl sc_law.nd (pi_range1 rfl T.b_range (pa_cons (pe_op op_add (pv 6) pe_int) pa_nil)) (blkOk_by (own := [("_law_k", 20)]) (by kernel_rfl)) (fun _ _ _ _ _ => (pg_name (i := 20) sc_law.nd rfl (by first | exact Or.inl rfl | exact Or.inr rfl))) (fun _ _ _ _ _ => pts_nil) (fun _ _ _ _ _ => by exact (pe_callB (cr_max rfl) (by rfl) T.b_max (by decide +kernel) (by exact (pa_cons (pe_lc (own := [("_law_n", 21)]) (g := gName 21) (tt := (tTest (tOp (rI0 fun i j => .bl (decide (i ≤ j))) (tVar 21) (tVar 20)))) (te := (tCB rInt (tCons (tVar 21) tNil))) rfl sc_law.nd (pi_list (pv 14)) (blkOk_by (own := [("_law_n", 21)]) (by kernel_rfl)) (fun _ _ _ _ _ => (pg_name (i := 21) sc_law.nd rfl (by first | exact Or.inl rfl | exact Or.inr rfl))) (fun _ _ _ _ _ => by exact (pts_one (pt_cmpR op_le (pv 21) (pv 20) (nomark _)))) (fun _ _ _ _ _ => by exact (pe_callTy call_int1 (by rfl) T.b_int (by decide +kernel) (pa_cons (pv 21) pa_nil)))) pa_nil))))) (nomark _)) (pss_one (ps_ret pe_bl)) pss_nil)
        (pss_cons (ps_if (PW.pt (pw_or (pt_cmpR (op_neD hr.units) (pe_ix ix_list (pv 13) pe_int (fun _ _ => rfl)) (pe_op op_rep (pe_lst (pa_cons pe_int pa_nil)) (pe_op op_add (pv 6) pe_int)) (nomark _)) (pw_or1 (pt_cmpR (op_neD hr.units) (pe_ix ix_list (pv 13) pe_int (fun _ _ => rfl)) (pe_listRg rfl rfl T.b_list (prg_1 rfl T.b_range (pe_op op_add (pv 6) pe_int))) (nomark _))))) (pss_one (ps_ret pe_bl)) pss_nil)
        (pss_cons (ps_for PassesOwn.never rfl (pi_zip rfl T.b_zip (pa_cons (pv 12) (pa_cons (pv 13) pa_nil))) (pg_tup rfl (pgs_cons (pg_name (i := 15) sc_law.nd rfl (by first | exact Or.inl rfl | exact Or.inr rfl)) (pgs_cons (pg_name (i := 16) sc_law.nd rfl (by first | exact Or.inl rfl | exact Or.inr rfl)) pgs_nil))) (pss_one (ps_for PassesOwn.never rfl (pi_zip rfl T.b_zip (pa_cons (pv 12) (pa_cons (pv 13) pa_nil))) (pg_tup rfl (pgs_cons (pg_name (i := 17) sc_law.nd rfl (by first | exact Or.inl rfl | exact Or.inr rfl)) (pgs_cons (pg_name (i := 18) sc_law.nd rfl (by first | exact Or.inl rfl | exact Or.inr rfl)) pgs_nil))) (pss_cons (ps_set (i := 19) sc_law.nd rfl (by first | exact Or.inl rfl | exact Or.inr rfl) (pe_callB (cr_all rfl) (by rfl) T.b_all (by decide +kernel) (by exact (pa_cons (pe_lc (own := [("_law_k", 20)]) (g := gName 20) (tt := tYes) (te := (tOp (rI0 fun i j => .bl (decide (i ≤ j))) (tOp (rIxL K) (tVar 16) (tVar 20)) (tOp (rIxL K) (tVar 18) (tVar 20)))) rfl sc_law.nd (pi_range1 rfl T.b_range (pa_cons (pe_op op_add (pv 6) pe_int) pa_nil)) (blkOk_by (own := [("_law_k", 20)]) (by kernel_rfl)) (fun _ _ _ _ _ => (pg_name (i := 20) sc_law.nd rfl (by first | exact Or.inl rfl | exact Or.inr rfl))) (fun _ _ _ _ _ => pts_nil) (fun _ _ _ _ _ => by exact (pe_cmpR op_le (pe_ix ix_list (pv 16) (pv 20) (fun _ _ => rfl)) (pe_ix ix_list (pv 18) (pv 20) (fun _ _ => rfl)) (nomark _)))) pa_nil))))
        (pss_one (ps_if (pt_cmpR op_ne (pe_cmpR (M_Edition_le.le (hr.mono (by decide))) (pv 15) (pv 17) (nomark _)) (pv 19) (nomark _)) (pss_one (ps_ret pe_bl)) pss_nil))))))
        (pss_one (ps_if (PW.pt (pw_or (pt_not (pt_val (pe_d D_counts_right (hr.mono (by decide)) (pa_cons (pv 9) (pa_cons (pv 6) pa_nil))))) (pw_or1 (pt_not (pt_val (pe_d D_counts_right (hr.mono (by decide)) (pa_cons (pv 11) (pa_cons (pv 6) pa_nil)))))))) (pss_one (ps_ret pe_bl)) pss_nil)))))))))))))))))
        (pss_one (ps_ret pe_bl)))), ?_⟩
    refine ⟨_, rfl, a, ns, rfl, hS, hl, fun st c H0 nst nc e0 S0 => ?_⟩
    refine ⟨_, rfl, by decide, by decide, for_range (lo := 0) (n := 4) (fun i σ' H' => ∃ v2 v3 v4 v5 v6 v7 v8 v9 v10 v11 v12 v13 v14 v15 v16 v17 v18 v19 v20 v21 : Option V, σ' = [some (.ref a), some (.ref st), v2, v3, v4, v5, v6, v7, v8, v9, v10, v11, v12, v13, v14, v15, v16, v17, v18, v19, v20, v21] ∧ StAt H' st c)
      ⟨none, none, none, none, none, none, none, none, none, none, none, none, none, none, none, none, none, none, none, none, rfl, S0⟩ ?_ ?_⟩
    · rintro i σ' H hi ⟨v2, v3, v4, v5, v6, v7, v8, v9, v10, v11, v12, v13, v14, v15, v16, v17, v18, v19, v20, v21, rfl, S⟩
      refine ⟨_, rfl, _, rfl, by show 7 ≤ sizeLine; decide, fun t1 nt1 => ?_⟩
      have S1 := S.same (Same.upd' nt1 (o := .tup [V.int 1, V.int 2, V.int 4, V.int 7, V.int 12, V.int 30, V.int 60]))
      refine ⟨st, c, t1, _, rfl, S1, (S.of_new nt1).1, SqT.of upd_same, by show 0 < 7; decide, by show 7 < _; decide, fun v H2 hv S2 e2 => ?_⟩
      obtain ⟨m, rfl, m0, m1⟩ : ∃ m : Nat, v = .int m ∧ 1 ≤ m ∧ m ≤ 60 := by
        simp only [List.mem_cons, List.not_mem_nil, or_false] at hv
        rcases hv with rfl | rfl | rfl | rfl | rfl | rfl | rfl
        · exact ⟨1, rfl, by decide, by decide⟩
        · exact ⟨2, rfl, by decide, by decide⟩
        · exact ⟨4, rfl, by decide, by decide⟩
        · exact ⟨7, rfl, by decide, by decide⟩
        · exact ⟨12, rfl, by decide, by decide⟩
        · exact ⟨30, rfl, by decide, by decide⟩
        · exact ⟨60, rfl, by decide, by decide⟩
      refine ⟨st, c, m, rfl, S2, m0, m1, fun tb r wk tw ws H3 hok hlen ntb nr htb hrr hwk htw S3 e3 => ?_⟩
      refine ⟨tb, _, rfl, SqT.of htb, rfl, _, _, rfl, _, _, rfl, _, _, rfl, rfl, ?_⟩
      have hrs : r ≠ st := (S2.of_new nr).1
      have zl : ((ws.map V.str).length : Int) = (ws.length : Nat) := by rw [List.length_map]
      refine ⟨_, rfl, r, _, rfl, .inl (SqL.of hrr), _, rfl, _, rfl, r, _, rfl, .inl (SqL.of hrr), st, c, ws.length, by rw [zl]; rfl, S3, hok.l1, fun n7 A H4 nn7 S4 e4 h7 => ?_⟩
      refine ⟨by show 2 ≤ sizeLine; decide, fun t2 nt2 => ?_⟩
      refine ⟨t2, _, rfl, SqT.of upd_same, rfl, _, _, rfl, _, _, rfl, rfl, ?_⟩
      have n7s : n7 ≠ st := (S3.of_new nn7).1
      have S5 := S4.same (Same.upd' nt2 (o := .tup [V.int ((ws.map V.str).length : Int), V.ref n7]))
      have e45 : Kp st H3 (upd H4 t2 (.tup [V.int ((ws.map V.str).length : Int), V.ref n7])) := e4.trans (Kp.of (Same.upd' nt2))
      have h7' : (upd H4 t2 (.tup [V.int ((ws.map V.str).length : Int), V.ref n7])) n7 = some (.lst (nts (idx ws.length A))) := Same.upd' nt2 _ _ h7
      obtain ⟨xs3, hx3⟩ := S3.neL
      refine ⟨_, rfl, _, rfl, r, _, rfl, .inl (SqL.of (e45 _ _ hrs hrr)), st, c, ws.length, by rw [zl]; rfl, S5, hok.l1, fun n8 B H6 nn8 S6 e6 h8 => ?_⟩
      have n8s : n8 ≠ st := (S5.of_new nn8).1
      have e36 : Kp st H3 H6 := e45.trans e6
      have h7'' := e6 _ _ n7s h7'
      refine ⟨fun σ' H' => ∃ (n8 : Addr) (B : Nat → Bool), σ' = [some (.ref a), some (.ref st), some (.int ((0 : Int) + (i : Int))), some (.ref r), some (.ref wk), some (.ref tw), some (.int (ws.length : Nat)), some (.ref n7), some (.ref n8), v9, v10, v11, v12, v13, v14, v15, v16, v17, v18, v19, v20, v21] ∧
        StAt H' st c ∧ H' r = some (.lst (ws.map V.str)) ∧ WkAt CW H' wk "a" ws ∧ WkAt CW H' tw "a" ws ∧ H' n7 = some (.lst (nts (idx ws.length A))) ∧ H' n8 = some (.lst (nts (idx ws.length B))), ?_, ?_⟩
      · refine ⟨_, rfl, st, c, 4, rfl, S6, by decide, by decide, fun d H7 _ _ S7 e7 => ?_⟩
        have e37 := e36.trans e7
        have f1 := e37 _ _ hrs hrr
        have f2 := hwk.kp e37 hx3
        have f3 := htw.kp e37 hx3
        have f4 := e7 _ _ n7s h7''
        have f5 := e7 _ _ n8s h8
        refine ⟨rfl, _, rfl, ite2 (fun _ => ?_) (fun _ => ⟨n8, B, by rw [zl]; rfl, S7, f1, f2, f3, f4, f5⟩)⟩
        have inner : ∀ σ : L2.St, σ[7]? = some (some (.ref n7)) → σ[8]? = some (some (.ref n8)) → 21 < σ.length → EvL (tLc (iList K (tVar 8)) (gName 20) (tTest (tOp (rIn K false) (tVar 20) (tVar 7))) (tVar 20) [20]) σ H7 (nts (idx ws.length fun i => B i && decide (i ∈ idx ws.length A))) := by
          intro σ s7 s8 sl
          have at_ : ∀ {i : Nat} {x : V}, (nts (idx ws.length B))[i]? = some x → x = .int ((idx ws.length B).getD i 0 : Nat) := by
            intro i x hx
            have hi : i < (idx ws.length B).length := by
              have := (List.getElem?_eq_some_iff.mp hx).1
              rw [nts_len] at this
              exact this
            rw [nts_at (List.getElem?_eq_getElem hi)] at hx
            rw [List.getD_eq_getElem?_getD, List.getElem?_eq_getElem hi]
            exact (Option.some.inj hx).symm
          have := el_lcL (K := K) (t := (tTest (tOp (rIn K false) (tVar 20) (tVar 7)))) (te := tVar 20) (vs := [20]) (j := 20) (σ := σ) (H := H7) (a := n8) (xs := nts (idx ws.length B)) (fun i => decide ((idx ws.length B).getD i 0 ∈ idx ws.length A)) (fun i => .int ((idx ws.length B).getD i 0 : Nat))
            (ev_var s8) (SqL.of f5) (by rw [nts_len]; have := idx_len ws.length B; have := hok.l1; omega) (fun x => wipe1 _ 20 x) (fun i x H2 e2 hx => ?_) (fun i x H2 e2 hx _ => ?_)
          · rw [nts_len, given_list (idx ws.length B) (fun n => decide (n ∈ idx ws.length A)) (fun n => .int (n : Nat)), filter_and] at this
            exact this
          · rw [at_ hx]
            refine et_test (ev_is (ev_op (ev_var (wj (by omega))) (ev_var (wv (by decide) s7)) (rv_isL (SqL.of (e2 _ _ f4)) rfl (nts_flat _))) ?_)
            rw [nts_in]
          · rw [at_ hx]
            exact ev_var (wj (by omega))
        refine inner _ rfl rfl (by show 21 < 22; decide) H7 (Ex.refl _) _ fun q H8 nq e8 hq => ?_
        exact ⟨q, _, by rw [zl]; rfl, S7.same e8, e8 _ _ f1, f2.same e8, f3.same e8, e8 _ _ f4, hq⟩
      · clear h8 h7'' e36 n8s nn8 S6 e6 hx3 h7' e45 S5 n7s nt2 h7 e4 S4 nn7 hrr hwk htw S3 e3 htb ntb nr e2 S2 S1 nt1
        rintro σ' H ⟨n8, B, rfl, S, hrr, hwk, htw, h7, h8⟩
        obtain ⟨dw, ew1, ew2, o1, o2, o3⟩ := id hwk.ob
        have hl1 := hok.l1
        refine ⟨_, rfl, _, rfl, _, rfl, wk, r, n7, "a", ws, A, rfl, hwk, hok, hrr, h7, fun x H1 nx e1 hx => ?_⟩
        refine ⟨_, rfl, _, rfl, _, rfl, tw, r, n8, "a", ws, B, rfl, htw.same e1, hok, e1 _ _ hrr, e1 _ _ h8, fun y H2 ny e2 hy => ⟨_, _, rfl, ?_⟩⟩
        have hx2 := hx.same e2
        obtain ⟨dx, tx, ux, vx, x1, _, _, _⟩ := id hx2.ob
        obtain ⟨dy, ty, uy, vy, y1, _, _, _⟩ := id hy.ob
        have E2 := Same.trans e1 e2
        refine ⟨_, rfl, _, rfl, x, dx, _, y, dy, _, rfl, rfl, x1, y1, x, y, wk, tw, "a", ws, A, B, rfl, hx2, hy, hok, fun z H3 nz e3 hz => ?_⟩
        refine ⟨_, rfl, _, rfl, ?_⟩
        refine ⟨_, rfl, _, rfl, x, dx, _, y, dy, _, rfl, rfl, e3 _ _ x1, e3 _ _ y1, x, y, wk, tw, "a", ws, A, B, rfl, hx2.same e3, hy.same e3, hok, fun q2 H4 nq2 e4 hq2 => ?_⟩
        have e34 := Same.trans e3 e4
        refine ⟨_, rfl, ?_⟩
        refine ⟨_, rfl, _, rfl, x, dx, _, y, dy, _, rfl, rfl, e34 _ _ x1, e34 _ _ y1, x, y, wk, tw, "a", ws, A, B, rfl, hx2.same e34, hy.same e34, hok, fun q4 H5 nq4 e5 hq4 => ?_⟩
        have E5 := Same.trans (Same.trans E2 e34) e5
        refine ⟨_, rfl, _, rfl, by show 0 ≤ sizeLine; decide, fun l0 nl0 => ?_⟩
        have E5' : Same H (upd H5 l0 (.lst [])) := Same.trans E5 (Same.upd' nl0)
        refine ⟨wk, r, l0, "a", ws, fun _ => false, rfl, hwk.same E5', hok, E5' _ _ hrr, ?_, fun q5 H6 nq5 e6 hq5 => ?_⟩
        · rw [upd_same]
          have : idx ws.length (fun _ => false) = [] := by unfold idx; simp
          rw [this]
          rfl
        have E6 := Same.trans E5' e6
        refine ⟨_, rfl, wk, dw, _, rfl, E6 _ _ o1, wk_no _ _ _ (by decide +kernel) (by decide +kernel) (by decide +kernel), wk, "a", ws, rfl, hwk.same E6, hok, fun q6 H7 nq6 e7 hq6 => ?_⟩
        refine ⟨by show 7 ≤ sizeLine; decide, fun md nmd => ?_⟩
        have E7 := Same.trans E6 e7
        generalize hH8 : upd H7 md _ = H8
        have e78 : Same H7 H8 := by rw [← hH8]; exact Same.upd' nmd
        have hm : H8 md = some (.lst (refs [x, y, q2, z, q4, q5, q6])) := by rw [← hH8]; exact upd_same
        clear hH8
        have e68 := Same.trans e7 e78
        have e58 : Same H5 H8 := Same.trans (Same.trans (Same.upd' nl0) e6) e68
        have e48 := Same.trans e5 e58
        have e38 := Same.trans e4 e48
        have e28 := Same.trans e3 e38
        have he : Eds CW CE H8 ws [x, y, q2, z, q4, q5, q6] [A, B, fun i => A i && B i, fun i => A i || B i, fun i => A i && !B i, fun _ => false, fun _ => true] := by
          refine ⟨rfl, fun j e S h1 h2 => ?_⟩
          match j, h1, h2 with
          | 0, h1, h2 => cases h1; cases h2; exact ⟨_, hx2.same e28⟩
          | 1, h1, h2 => cases h1; cases h2; exact ⟨_, hy.same e28⟩
          | 2, h1, h2 => cases h1; cases h2; exact ⟨_, hq2.same e48⟩
          | 3, h1, h2 => cases h1; cases h2; exact ⟨_, hz.same e38⟩
          | 4, h1, h2 => cases h1; cases h2; exact ⟨_, hq4.same e58⟩
          | 5, h1, h2 => cases h1; cases h2; exact ⟨_, hq5.same e68⟩
          | 6, h1, h2 => cases h1; cases h2; exact ⟨_, hq6.same e78⟩
          | n + 7, h1, _ => simp at h1
        have hr8 : H8 r = some (.lst (ws.map V.str)) := e78 _ _ (E7 _ _ hrr)
        have S8 := (S.same E7).same e78
        have hxE := hx2.same e28
        have hzE := hz.same e38
        clear hq6 hq5 hq4 hq2 hz x1 y1 hx2 hy hx E5 E5' E6 E7 E2 e34
        refine sq_go (told_ok rfl rfl (by show 15 < 22; decide) hok hm he (by show 7 ≤ 100; decide) _ fun tl ps H9 ntl e9 ht hp => ?_)
        have he9 := he.same e9
        have hm9 := e9 _ _ hm
        dsimp only [gName]
        refine q_when (b := false) (isk_ok rfl rfl ⟨r, rfl, e9 _ _ hr8⟩ (by show 16 < 22; decide) hok hm9 ht he9 hp (by show 7 ≤ 100; decide)) (fun h => nomatch h) fun _ H10 e10 => ?_
        have hpl : ps.length = 7 := hp.len
        obtain ⟨p0, i0⟩ := at_some (l := ps) (i := 0) (by omega)
        obtain ⟨p1, i1⟩ := at_some (l := ps) (i := 1) (by omega)
        obtain ⟨p2, i2⟩ := at_some (l := ps) (i := 2) (by omega)
        obtain ⟨p3, i3⟩ := at_some (l := ps) (i := 3) (by omega)
        obtain ⟨p5, i5⟩ := at_some (l := ps) (i := 5) (by omega)
        obtain ⟨p6, i6⟩ := at_some (l := ps) (i := 6) (by omega)
        have g0 := hp.at_ 0 p0 _ i0 rfl
        have g1 := hp.at_ 1 p1 _ i1 rfl
        have g2 := hp.at_ 2 p2 _ i2 rfl
        have g3 := hp.at_ 3 p3 _ i3 rfl
        have g5 := hp.at_ 5 p5 _ i5 rfl
        have g6 := hp.at_ 6 p6 _ i6 rfl
        refine q_when (b := false) (chk3 rfl rfl (by show 21 < 22; decide) hl1 (e10 _ _ ht) (by omega) i0 i1 i3 (e10 _ _ g0) (e10 _ _ g1) (e10 _ _ g3)) (fun h => nomatch h) fun _ H11 e11 => ?_
        have e911 := Same.trans e10 e11
        refine q_asgL (shd_ok rfl rfl (by show 21 < 22; decide) hl1 (e911 _ _ ht) i0 i1 (e911 _ _ g0) (e911 _ _ g1)) fun sh H12 nsh e12 hsh => ?_
        have e912 := Same.trans e911 e12
        refine q_when (b := false) (chk5 rfl rfl rfl (by show 21 < 22; decide) hl1 (e912 _ _ ht) i2 (e912 _ _ g2) hsh) (fun h => nomatch h) fun _ H13 e13 => ?_
        have e913 := Same.trans e912 e13
        refine q_when (b := false) (chk6 rfl rfl hl1 (e913 _ _ ht) i5 i6 (e913 _ _ g5) (e913 _ _ g6)) (fun h => nomatch h) fun _ H14 e14 => ?_
        have e914 := Same.trans e913 e14
        have hm14 := e914 _ _ hm9
        have ht14 := e914 _ _ ht
        have he14 := he9.same e914
        have hp14 := hp.same e914
        have S14 := (S8.same e9).same e914
        have hxE14 := (hxE.same e9).same e914
        have hzE14 := (hzE.same e9).same e914
        have hlen : (refs [x, y, q2, z, q4, q5, q6]).length = (refs ps).length := by rw [refs_len, refs_len, hpl]; rfl
        have hsl : ∀ (T' : Addr) (p q : V) (H' : Hp), Same H14 H' → H' T' = none → Same H14 (upd H' T' (.tup [p, q])) := fun T' p q H' e n => Same.trans e (Same.upd' n)
        clear hsh e13 e12 nsh e11 e10 e9 ntl g0 g1 g2 g3 g5 g6 hxE hzE S8 hr8 he hm e28 e38 e48 e58 e68 e78 e913 e912 e911
        refine ⟨_, rfl, _, rfl, md, tl, _, _, rfl, SqL.of hm14, SqL.of ht14, RZ.for_zipL (xs := refs [x, y, q2, z, q4, q5, q6]) (ys := refs ps) hlen (fun _ σ' H' => ∃ u15 u16 u17 u18 u19 : Option V, σ' = [some (.ref a), some (.ref st), some (.int ((0 : Int) + (i : Int))), some (.ref r), some (.ref wk), some (.ref tw), some (.int (ws.length : Nat)), some (.ref n7), some (.ref n8), some (.ref x), some (.ref y), some (.ref z), some (.ref md), some (.ref tl), some (.ref sh), u15, u16, u17, u18, u19, v20, v21] ∧ Same H14 H')
          ⟨_, _, _, _, _, rfl, Same.refl _⟩ (fun j σ' H' ⟨_, _, _, _, _, _, e⟩ => ⟨SqL.of (e _ _ hm14), SqL.of (e _ _ ht14)⟩) ?_ ?_⟩
        · rintro j X Y T' σ' H' hX hY ⟨u15, u16, u17, u18, u19, rfl, e⟩ nT
          obtain ⟨ei, hei, rfl⟩ := refs_inv hX
          obtain ⟨pi, hpi, rfl⟩ := refs_inv hY
          obtain ⟨Si, hSi⟩ : ∃ Si, [A, B, fun i => A i && B i, fun i => A i || B i, fun i => A i && !B i, fun _ => false, fun _ => true][j]? = some Si := at_some (by rw [← he14.len]; exact (List.getElem?_eq_some_iff.mp hei).1)
          obtain ⟨wki, hedi⟩ := he14.at_ j ei Si hei hSi
          have htli := hp14.at_ j pi Si hpi hSi
          have e1 := hsl T' (.ref ei) (.ref pi) H' e nT
          refine ⟨T', _, rfl, SqT.of upd_same, rfl, _, _, rfl, _, _, rfl, rfl, ?_⟩
          refine ⟨_, rfl, _, rfl, md, tl, _, _, rfl, SqL.of (e1 _ _ hm14), SqL.of (e1 _ _ ht14), RZ.for_zipL (xs := refs [x, y, q2, z, q4, q5, q6]) (ys := refs ps) hlen (fun _ σ' H' => ∃ u17 u18 u19 : Option V, σ' = [some (.ref a), some (.ref st), some (.int ((0 : Int) + (i : Int))), some (.ref r), some (.ref wk), some (.ref tw), some (.int (ws.length : Nat)), some (.ref n7), some (.ref n8), some (.ref x), some (.ref y), some (.ref z), some (.ref md), some (.ref tl), some (.ref sh), some (.ref ei), some (.ref pi), u17, u18, u19, v20, v21] ∧ Same H14 H')
            ⟨_, _, _, rfl, e1⟩ (fun j σ' H' ⟨_, _, _, _, e⟩ => ⟨SqL.of (e _ _ hm14), SqL.of (e _ _ ht14)⟩) ?_ ?_⟩
          · rintro j' X Y T2 σ' H2 hX hY ⟨u17, u18, u19, rfl, e2⟩ nT2
            obtain ⟨ej, hej, rfl⟩ := refs_inv hX
            obtain ⟨pj, hpj, rfl⟩ := refs_inv hY
            obtain ⟨Sj, hSj⟩ : ∃ Sj, [A, B, fun i => A i && B i, fun i => A i || B i, fun i => A i && !B i, fun _ => false, fun _ => true][j']? = some Sj := at_some (by rw [← he14.len]; exact (List.getElem?_eq_some_iff.mp hej).1)
            obtain ⟨wkj, hedj⟩ := he14.at_ j' ej Sj hej hSj
            have htlj := hp14.at_ j' pj Sj hpj hSj
            have e3 := hsl T2 (.ref ej) (.ref pj) H2 e2 nT2
            refine ⟨T2, _, rfl, SqT.of upd_same, rfl, _, _, rfl, _, _, rfl, rfl, ?_⟩
            refine q_asg (less_ok rfl rfl rfl (by show 21 < 22; decide) hl1 (e3 _ _ htli) (e3 _ _ htlj)) fun H3 e4 => ?_
            have e5 := Same.trans e3 e4
            have hedi5 := hedi.same e5
            have hedj5 := hedj.same e5
            obtain ⟨dxi, ti, ui, vi, z1, _, _, _⟩ := id hedi5.ob
            obtain ⟨dxj, tj, uj, vj, z2, _, _, _⟩ := id hedj5.ob
            refine ⟨_, rfl, _, rfl, ei, dxi, _, ej, dxj, _, rfl, rfl, z1, z2, ei, ej, wki, wkj, "a", ws, Si, Sj, rfl, hedi5, hedj5, hok, fun H4 e6 => ⟨_, rfl, rfl, _, rfl, ?_⟩⟩
            rw [decide_eq_true (show V.bl ((idx ws.length Si).all Sj) = V.bl ((idx ws.length Si).all Sj) from rfl)]
            exact ⟨_, _, _, rfl, Same.trans e5 e6⟩
          · rintro σ' H2 ⟨u17, u18, u19, rfl, e2⟩
            exact ⟨_, _, _, _, _, rfl, e2⟩
        · rintro σ' H' ⟨u15, u16, u17, u18, u19, rfl, e⟩
          have hxE' := hxE14.same e
          have S' := S14.same e
          refine ⟨_, rfl, _, rfl, x, wk, ws.length, "a", ws, A, rfl, hxE', hok, rfl, fun H1 e1 => ⟨_, rfl, ?_⟩⟩
          have hzE' := (hzE14.same e).same e1
          refine ⟨_, rfl, _, rfl, z, wk, ws.length, "a", ws, _, rfl, hzE', hok, rfl, fun H2 e2 => ⟨_, rfl, ?_⟩⟩
          exact ⟨_, _, _, _, _, _, _, _, _, _, _, _, _, _, _, _, _, _, _, _, rfl, (S'.same e1).same e2⟩
    · rintro σ' H ⟨v2, v3, v4, v5, v6, v7, v8, v9, v10, v11, v12, v13, v14, v15, v16, v17, v18, v19, v20, v21, rfl, S⟩
      exact k H
end
end Lm

namespace Lm
open PySem L2
theorem all_mk {l : PySem.W.OpenLaw} {w : World} {K : PySem.W.Frag} {h : Heap} {mg : Str → Option Value} {fa C_Work C_Edition f_fresh f_fill f_take f_one f_allw f_somew f_kept f_isnum f_upto f_isrow f_isword f_wkinit f_wklen f_wkin f_wkend f_wkeq f_cuts f_counts f_edinit f_whole f_edlen f_edin f_rcount f_rcut f_cutb f_countat f_kernel f_onew f_and f_or f_sub f_le f_base f_edn f_row f_isk f_cr f_law : Addr} (X : K.In h) (G : h.Ns mainGlobals mg) (hfa : mg "law" = some (.ref fa))
    {od_fresh an_fresh od_fill an_fill od_take an_take od_one an_one od_allw an_allw od_somew an_somew od_kept an_kept od_isnum an_isnum od_upto an_upto od_isrow an_isrow od_isword an_isword od_wkinit an_wkinit od_wklen an_wklen od_wkin an_wkin od_wkend an_wkend od_wkeq an_wkeq od_cuts an_cuts od_counts an_counts od_edinit an_edinit od_whole an_whole od_edlen an_edlen od_edin an_edin od_rcount an_rcount od_rcut an_rcut od_cutb an_cutb od_countat an_countat od_kernel an_kernel od_onew an_onew od_and an_and od_or an_or od_sub an_sub od_le an_le od_base an_base od_edn an_edn od_row an_row od_isk an_isk od_cr an_cr od_law an_law : Option Addr} {sl_fresh sl_fill sl_take sl_one sl_allw sl_somew sl_kept sl_isnum sl_upto sl_isrow sl_isword sl_wkinit sl_wklen sl_wkin sl_wkend sl_wkeq sl_cuts sl_counts sl_edinit sl_whole sl_edlen sl_edin sl_rcount sl_rcut sl_cutb sl_countat sl_kernel sl_onew sl_and sl_or sl_sub sl_le sl_base sl_edn sl_row sl_isk sl_cr sl_law : Array (Option Value)} {oc_fresh kV_fresh dc_fresh pm_fresh cd_fresh ct_fresh oc_fill kV_fill dc_fill pm_fill cd_fill ct_fill oc_take kV_take dc_take pm_take cd_take ct_take oc_one kV_one dc_one pm_one cd_one ct_one oc_allw kV_allw dc_allw pm_allw cd_allw ct_allw oc_somew kV_somew dc_somew pm_somew cd_somew ct_somew oc_kept kV_kept dc_kept pm_kept cd_kept ct_kept oc_isnum kV_isnum dc_isnum pm_isnum cd_isnum ct_isnum oc_upto kV_upto dc_upto pm_upto cd_upto ct_upto oc_isrow kV_isrow dc_isrow pm_isrow cd_isrow ct_isrow oc_isword kV_isword dc_isword pm_isword cd_isword ct_isword oc_wkinit kV_wkinit dc_wkinit pm_wkinit cd_wkinit ct_wkinit oc_wklen kV_wklen dc_wklen pm_wklen cd_wklen ct_wklen oc_wkin kV_wkin dc_wkin pm_wkin cd_wkin ct_wkin oc_wkend kV_wkend dc_wkend pm_wkend cd_wkend ct_wkend oc_wkeq kV_wkeq dc_wkeq pm_wkeq cd_wkeq ct_wkeq oc_cuts kV_cuts dc_cuts pm_cuts cd_cuts ct_cuts oc_counts kV_counts dc_counts pm_counts cd_counts ct_counts oc_edinit kV_edinit dc_edinit pm_edinit cd_edinit ct_edinit oc_whole kV_whole dc_whole pm_whole cd_whole ct_whole oc_edlen kV_edlen dc_edlen pm_edlen cd_edlen ct_edlen oc_edin kV_edin dc_edin pm_edin cd_edin ct_edin oc_rcount kV_rcount dc_rcount pm_rcount cd_rcount ct_rcount oc_rcut kV_rcut dc_rcut pm_rcut cd_rcut ct_rcut oc_cutb kV_cutb dc_cutb pm_cutb cd_cutb ct_cutb oc_countat kV_countat dc_countat pm_countat cd_countat ct_countat oc_kernel kV_kernel dc_kernel pm_kernel cd_kernel ct_kernel oc_onew kV_onew dc_onew pm_onew cd_onew ct_onew oc_and kV_and dc_and pm_and cd_and ct_and oc_or kV_or dc_or pm_or cd_or ct_or oc_sub kV_sub dc_sub pm_sub cd_sub ct_sub oc_le kV_le dc_le pm_le cd_le ct_le oc_base kV_base dc_base pm_base cd_base ct_base oc_edn kV_edn dc_edn pm_edn cd_edn ct_edn oc_row kV_row dc_row pm_row cd_row ct_row oc_isk kV_isk dc_isk pm_isk cd_isk ct_isk oc_cr kV_cr dc_cr pm_cr cd_cr ct_cr oc_law kV_law dc_law pm_law cd_law ct_law : Value} {tL tW : Tok}
    (a_Work : PySem.W.nsIn K mainGlobals "Work" = some (some (.ref C_Work)))
    (pg_Work : PySem.W.plainGet K C_Work Str.empty = true)
    (hd_Work : PySem.W.hasDictIn K C_Work = true)
    (po_Work : PySem.W.plainOver K C_Work = true)
    (sa_Work : PySem.W.findIn K (.ref C_Work) "__setattr__" = some (some (.builtin "object.__setattr__")))
    (mk_Work : PySem.W.makesIn K C_Work = true)
    (kc_Work : PySem.W.keepIn K (.ref C_Work) = true)
    (n_Work_name : PySem.W.findIn K (.ref C_Work) "name" = some none)
    (n_Work_words : PySem.W.findIn K (.ref C_Work) "words" = some none)
    (n_Work_ends : PySem.W.findIn K (.ref C_Work) "ends" = some none)
    (ha_Work : PySem.W.findIn K (.ref C_Work) "__class__" = some (some (.builtin "object.__class__")))
    (hn_Work : PySem.W.specialIn K (.builtin "object.__class__") "__get__" = some (some (.builtin "getset_descriptor.__get__")))
    (htk_Work : PySem.W.takesIn K (.builtin "object.__class__") = some true)
    (hm_Work : PySem.W.mroIn K C_Work (.type "object") = some true)
    (ne_Work : PySem.W.findIn K (.ref C_Work) "__ne__" = some (some (.builtin "object.__ne__")))
    (ob_Work : PySem.W.subIn K (.ref C_Work) (.type "object") = some true)
    (a_Edition : PySem.W.nsIn K mainGlobals "Edition" = some (some (.ref C_Edition)))
    (pg_Edition : PySem.W.plainGet K C_Edition Str.empty = true)
    (hd_Edition : PySem.W.hasDictIn K C_Edition = true)
    (po_Edition : PySem.W.plainOver K C_Edition = true)
    (sa_Edition : PySem.W.findIn K (.ref C_Edition) "__setattr__" = some (some (.builtin "object.__setattr__")))
    (mk_Edition : PySem.W.makesIn K C_Edition = true)
    (kc_Edition : PySem.W.keepIn K (.ref C_Edition) = true)
    (n_Edition_work : PySem.W.findIn K (.ref C_Edition) "work" = some none)
    (n_Edition_words : PySem.W.findIn K (.ref C_Edition) "words" = some none)
    (n_Edition_cuts : PySem.W.findIn K (.ref C_Edition) "cuts" = some none)
    (n_Edition_counts : PySem.W.findIn K (.ref C_Edition) "counts" = some none)
    (sf_Edition : PySem.W.selfFirst K C_Edition = true)
    (a_fresh : PySem.W.nsIn K mainGlobals "_law_fresh" = some (some (.ref f_fresh)))
    (l_fresh : K.lookup f_fresh = some ⟨oc_fresh, od_fresh, .func (PySem.W.fnOf "_law_fresh" "_law_fresh" (defArgs s_fresh) (defBody s_fresh) (defScope s_fresh) .none kV_fresh dc_fresh pm_fresh an_fresh cd_fresh ct_fresh), sl_fresh⟩)
    (c_fresh : PySem.W.codeIn K cd_fresh "_law_fresh" = true)
    (k_fresh : PySem.W.keepIn K (.ref f_fresh) = true)
    (a_fill : PySem.W.nsIn K mainGlobals "_law_fill" = some (some (.ref f_fill)))
    (l_fill : K.lookup f_fill = some ⟨oc_fill, od_fill, .func (PySem.W.fnOf "_law_fill" "_law_fill" (defArgs s_fill) (defBody s_fill) (defScope s_fill) .none kV_fill dc_fill pm_fill an_fill cd_fill ct_fill), sl_fill⟩)
    (c_fill : PySem.W.codeIn K cd_fill "_law_fill" = true)
    (k_fill : PySem.W.keepIn K (.ref f_fill) = true)
    (a_take : PySem.W.nsIn K mainGlobals "_law_take" = some (some (.ref f_take)))
    (l_take : K.lookup f_take = some ⟨oc_take, od_take, .func (PySem.W.fnOf "_law_take" "_law_take" (defArgs s_take) (defBody s_take) (defScope s_take) .none kV_take dc_take pm_take an_take cd_take ct_take), sl_take⟩)
    (c_take : PySem.W.codeIn K cd_take "_law_take" = true)
    (k_take : PySem.W.keepIn K (.ref f_take) = true)
    (a_one : PySem.W.nsIn K mainGlobals "_law_one" = some (some (.ref f_one)))
    (l_one : K.lookup f_one = some ⟨oc_one, od_one, .func (PySem.W.fnOf "_law_one" "_law_one" (defArgs s_one) (defBody s_one) (defScope s_one) .none kV_one dc_one pm_one an_one cd_one ct_one), sl_one⟩)
    (c_one : PySem.W.codeIn K cd_one "_law_one" = true)
    (k_one : PySem.W.keepIn K (.ref f_one) = true)
    (a_allw : PySem.W.nsIn K mainGlobals "_law_all_words" = some (some (.ref f_allw)))
    (l_allw : K.lookup f_allw = some ⟨oc_allw, od_allw, .func (PySem.W.fnOf "_law_all_words" "_law_all_words" (defArgs s_all_words) (defBody s_all_words) (defScope s_all_words) .none kV_allw dc_allw pm_allw an_allw cd_allw ct_allw), sl_allw⟩)
    (c_allw : PySem.W.codeIn K cd_allw "_law_all_words" = true)
    (k_allw : PySem.W.keepIn K (.ref f_allw) = true)
    (a_somew : PySem.W.nsIn K mainGlobals "_law_some_words" = some (some (.ref f_somew)))
    (l_somew : K.lookup f_somew = some ⟨oc_somew, od_somew, .func (PySem.W.fnOf "_law_some_words" "_law_some_words" (defArgs s_some_words) (defBody s_some_words) (defScope s_some_words) .none kV_somew dc_somew pm_somew an_somew cd_somew ct_somew), sl_somew⟩)
    (c_somew : PySem.W.codeIn K cd_somew "_law_some_words" = true)
    (k_somew : PySem.W.keepIn K (.ref f_somew) = true)
    (a_kept : PySem.W.nsIn K mainGlobals "_law_kept" = some (some (.ref f_kept)))
    (l_kept : K.lookup f_kept = some ⟨oc_kept, od_kept, .func (PySem.W.fnOf "_law_kept" "_law_kept" (defArgs s_kept) (defBody s_kept) (defScope s_kept) .none kV_kept dc_kept pm_kept an_kept cd_kept ct_kept), sl_kept⟩)
    (c_kept : PySem.W.codeIn K cd_kept "_law_kept" = true)
    (k_kept : PySem.W.keepIn K (.ref f_kept) = true)
    (a_isnum : PySem.W.nsIn K mainGlobals "is_number" = some (some (.ref f_isnum)))
    (l_isnum : K.lookup f_isnum = some ⟨oc_isnum, od_isnum, .func (PySem.W.fnOf "is_number" "is_number" (defArgs s_is_number) (defBody s_is_number) (defScope s_is_number) .none kV_isnum dc_isnum pm_isnum an_isnum cd_isnum ct_isnum), sl_isnum⟩)
    (c_isnum : PySem.W.codeIn K cd_isnum "is_number" = true)
    (k_isnum : PySem.W.keepIn K (.ref f_isnum) = true)
    (a_upto : PySem.W.nsIn K mainGlobals "is_up_to" = some (some (.ref f_upto)))
    (l_upto : K.lookup f_upto = some ⟨oc_upto, od_upto, .func (PySem.W.fnOf "is_up_to" "is_up_to" (defArgs s_is_up_to) (defBody s_is_up_to) (defScope s_is_up_to) .none kV_upto dc_upto pm_upto an_upto cd_upto ct_upto), sl_upto⟩)
    (c_upto : PySem.W.codeIn K cd_upto "is_up_to" = true)
    (k_upto : PySem.W.keepIn K (.ref f_upto) = true)
    (a_isrow : PySem.W.nsIn K mainGlobals "is_row" = some (some (.ref f_isrow)))
    (l_isrow : K.lookup f_isrow = some ⟨oc_isrow, od_isrow, .func (PySem.W.fnOf "is_row" "is_row" (defArgs s_is_row) (defBody s_is_row) (defScope s_is_row) .none kV_isrow dc_isrow pm_isrow an_isrow cd_isrow ct_isrow), sl_isrow⟩)
    (c_isrow : PySem.W.codeIn K cd_isrow "is_row" = true)
    (k_isrow : PySem.W.keepIn K (.ref f_isrow) = true)
    (a_isword : PySem.W.nsIn K mainGlobals "is_word" = some (some (.ref f_isword)))
    (l_isword : K.lookup f_isword = some ⟨oc_isword, od_isword, .func (PySem.W.fnOf "is_word" "is_word" (defArgs s_is_word) (defBody s_is_word) (defScope s_is_word) .none kV_isword dc_isword pm_isword an_isword cd_isword ct_isword), sl_isword⟩)
    (c_isword : PySem.W.codeIn K cd_isword "is_word" = true)
    (k_isword : PySem.W.keepIn K (.ref f_isword) = true)
    (a_wkinit : PySem.W.findIn K (.ref C_Work) "__init__" = some (some (.ref f_wkinit)))
    (i_wkinit : PySem.W.isFn K (.ref f_wkinit) = true)
    (l_wkinit : K.lookup f_wkinit = some ⟨oc_wkinit, od_wkinit, .func (PySem.W.fnOf "__init__" "Work.__init__" (defArgs s_Work_init) (defBody s_Work_init) (defScope s_Work_init) .none kV_wkinit dc_wkinit pm_wkinit an_wkinit cd_wkinit ct_wkinit), sl_wkinit⟩)
    (c_wkinit : PySem.W.codeIn K cd_wkinit "Work.__init__" = true)
    (k_wkinit : PySem.W.keepIn K (.ref f_wkinit) = true)
    (a_wklen : PySem.W.findIn K (.ref C_Work) "__len__" = some (some (.ref f_wklen)))
    (i_wklen : PySem.W.isFn K (.ref f_wklen) = true)
    (l_wklen : K.lookup f_wklen = some ⟨oc_wklen, od_wklen, .func (PySem.W.fnOf "__len__" "Work.__len__" (defArgs s_Work_len) (defBody s_Work_len) (defScope s_Work_len) .none kV_wklen dc_wklen pm_wklen an_wklen cd_wklen ct_wklen), sl_wklen⟩)
    (c_wklen : PySem.W.codeIn K cd_wklen "Work.__len__" = true)
    (k_wklen : PySem.W.keepIn K (.ref f_wklen) = true)
    (a_wkin : PySem.W.findIn K (.ref C_Work) "__contains__" = some (some (.ref f_wkin)))
    (i_wkin : PySem.W.isFn K (.ref f_wkin) = true)
    (l_wkin : K.lookup f_wkin = some ⟨oc_wkin, od_wkin, .func (PySem.W.fnOf "__contains__" "Work.__contains__" (defArgs s_Work_contains) (defBody s_Work_contains) (defScope s_Work_contains) .none kV_wkin dc_wkin pm_wkin an_wkin cd_wkin ct_wkin), sl_wkin⟩)
    (c_wkin : PySem.W.codeIn K cd_wkin "Work.__contains__" = true)
    (k_wkin : PySem.W.keepIn K (.ref f_wkin) = true)
    (a_wkend : PySem.W.findIn K (.ref C_Work) "end_of" = some (some (.ref f_wkend)))
    (i_wkend : PySem.W.isFn K (.ref f_wkend) = true)
    (l_wkend : K.lookup f_wkend = some ⟨oc_wkend, od_wkend, .func (PySem.W.fnOf "end_of" "Work.end_of" (defArgs s_Work_end_of) (defBody s_Work_end_of) (defScope s_Work_end_of) .none kV_wkend dc_wkend pm_wkend an_wkend cd_wkend ct_wkend), sl_wkend⟩)
    (c_wkend : PySem.W.codeIn K cd_wkend "Work.end_of" = true)
    (k_wkend : PySem.W.keepIn K (.ref f_wkend) = true)
    (a_wkeq : PySem.W.findIn K (.ref C_Work) "__eq__" = some (some (.ref f_wkeq)))
    (i_wkeq : PySem.W.isFn K (.ref f_wkeq) = true)
    (l_wkeq : K.lookup f_wkeq = some ⟨oc_wkeq, od_wkeq, .func (PySem.W.fnOf "__eq__" "Work.__eq__" (defArgs s_Work_eq) (defBody s_Work_eq) (defScope s_Work_eq) .none kV_wkeq dc_wkeq pm_wkeq an_wkeq cd_wkeq ct_wkeq), sl_wkeq⟩)
    (c_wkeq : PySem.W.codeIn K cd_wkeq "Work.__eq__" = true)
    (k_wkeq : PySem.W.keepIn K (.ref f_wkeq) = true)
    (a_cuts : PySem.W.nsIn K mainGlobals "cuts_behind" = some (some (.ref f_cuts)))
    (l_cuts : K.lookup f_cuts = some ⟨oc_cuts, od_cuts, .func (PySem.W.fnOf "cuts_behind" "cuts_behind" (defArgs s_cuts_behind) (defBody s_cuts_behind) (defScope s_cuts_behind) .none kV_cuts dc_cuts pm_cuts an_cuts cd_cuts ct_cuts), sl_cuts⟩)
    (c_cuts : PySem.W.codeIn K cd_cuts "cuts_behind" = true)
    (k_cuts : PySem.W.keepIn K (.ref f_cuts) = true)
    (a_counts : PySem.W.nsIn K mainGlobals "counts_at" = some (some (.ref f_counts)))
    (l_counts : K.lookup f_counts = some ⟨oc_counts, od_counts, .func (PySem.W.fnOf "counts_at" "counts_at" (defArgs s_counts_at) (defBody s_counts_at) (defScope s_counts_at) .none kV_counts dc_counts pm_counts an_counts cd_counts ct_counts), sl_counts⟩)
    (c_counts : PySem.W.codeIn K cd_counts "counts_at" = true)
    (k_counts : PySem.W.keepIn K (.ref f_counts) = true)
    (a_edinit : PySem.W.findIn K (.ref C_Edition) "__init__" = some (some (.ref f_edinit)))
    (i_edinit : PySem.W.isFn K (.ref f_edinit) = true)
    (l_edinit : K.lookup f_edinit = some ⟨oc_edinit, od_edinit, .func (PySem.W.fnOf "__init__" "Edition.__init__" (defArgs s_Edition_init) (defBody s_Edition_init) (defScope s_Edition_init) .none kV_edinit dc_edinit pm_edinit an_edinit cd_edinit ct_edinit), sl_edinit⟩)
    (c_edinit : PySem.W.codeIn K cd_edinit "Edition.__init__" = true)
    (k_edinit : PySem.W.keepIn K (.ref f_edinit) = true)
    (a_whole : PySem.W.findIn K (.ref C_Work) "whole" = some (some (.ref f_whole)))
    (i_whole : PySem.W.isFn K (.ref f_whole) = true)
    (l_whole : K.lookup f_whole = some ⟨oc_whole, od_whole, .func (PySem.W.fnOf "whole" "Work.whole" (defArgs s_Work_whole) (defBody s_Work_whole) (defScope s_Work_whole) .none kV_whole dc_whole pm_whole an_whole cd_whole ct_whole), sl_whole⟩)
    (c_whole : PySem.W.codeIn K cd_whole "Work.whole" = true)
    (k_whole : PySem.W.keepIn K (.ref f_whole) = true)
    (a_edlen : PySem.W.findIn K (.ref C_Edition) "__len__" = some (some (.ref f_edlen)))
    (i_edlen : PySem.W.isFn K (.ref f_edlen) = true)
    (l_edlen : K.lookup f_edlen = some ⟨oc_edlen, od_edlen, .func (PySem.W.fnOf "__len__" "Edition.__len__" (defArgs s_Edition_len) (defBody s_Edition_len) (defScope s_Edition_len) .none kV_edlen dc_edlen pm_edlen an_edlen cd_edlen ct_edlen), sl_edlen⟩)
    (c_edlen : PySem.W.codeIn K cd_edlen "Edition.__len__" = true)
    (k_edlen : PySem.W.keepIn K (.ref f_edlen) = true)
    (a_edin : PySem.W.findIn K (.ref C_Edition) "__contains__" = some (some (.ref f_edin)))
    (i_edin : PySem.W.isFn K (.ref f_edin) = true)
    (l_edin : K.lookup f_edin = some ⟨oc_edin, od_edin, .func (PySem.W.fnOf "__contains__" "Edition.__contains__" (defArgs s_Edition_contains) (defBody s_Edition_contains) (defScope s_Edition_contains) .none kV_edin dc_edin pm_edin an_edin cd_edin ct_edin), sl_edin⟩)
    (c_edin : PySem.W.codeIn K cd_edin "Edition.__contains__" = true)
    (k_edin : PySem.W.keepIn K (.ref f_edin) = true)
    (a_rcount : PySem.W.nsIn K mainGlobals "require_count" = some (some (.ref f_rcount)))
    (l_rcount : K.lookup f_rcount = some ⟨oc_rcount, od_rcount, .func (PySem.W.fnOf "require_count" "require_count" (defArgs s_require_count) (defBody s_require_count) (defScope s_require_count) .none kV_rcount dc_rcount pm_rcount an_rcount cd_rcount ct_rcount), sl_rcount⟩)
    (c_rcount : PySem.W.codeIn K cd_rcount "require_count" = true)
    (k_rcount : PySem.W.keepIn K (.ref f_rcount) = true)
    (a_rcut : PySem.W.nsIn K mainGlobals "require_cut" = some (some (.ref f_rcut)))
    (l_rcut : K.lookup f_rcut = some ⟨oc_rcut, od_rcut, .func (PySem.W.fnOf "require_cut" "require_cut" (defArgs s_require_cut) (defBody s_require_cut) (defScope s_require_cut) .none kV_rcut dc_rcut pm_rcut an_rcut cd_rcut ct_rcut), sl_rcut⟩)
    (c_rcut : PySem.W.codeIn K cd_rcut "require_cut" = true)
    (k_rcut : PySem.W.keepIn K (.ref f_rcut) = true)
    (a_cutb : PySem.W.findIn K (.ref C_Edition) "cut_behind" = some (some (.ref f_cutb)))
    (i_cutb : PySem.W.isFn K (.ref f_cutb) = true)
    (l_cutb : K.lookup f_cutb = some ⟨oc_cutb, od_cutb, .func (PySem.W.fnOf "cut_behind" "Edition.cut_behind" (defArgs s_Edition_cut_behind) (defBody s_Edition_cut_behind) (defScope s_Edition_cut_behind) .none kV_cutb dc_cutb pm_cutb an_cutb cd_cutb ct_cutb), sl_cutb⟩)
    (c_cutb : PySem.W.codeIn K cd_cutb "Edition.cut_behind" = true)
    (k_cutb : PySem.W.keepIn K (.ref f_cutb) = true)
    (a_countat : PySem.W.findIn K (.ref C_Edition) "count_at" = some (some (.ref f_countat)))
    (i_countat : PySem.W.isFn K (.ref f_countat) = true)
    (l_countat : K.lookup f_countat = some ⟨oc_countat, od_countat, .func (PySem.W.fnOf "count_at" "Edition.count_at" (defArgs s_Edition_count_at) (defBody s_Edition_count_at) (defScope s_Edition_count_at) .none kV_countat dc_countat pm_countat an_countat cd_countat ct_countat), sl_countat⟩)
    (c_countat : PySem.W.codeIn K cd_countat "Edition.count_at" = true)
    (k_countat : PySem.W.keepIn K (.ref f_countat) = true)
    (a_kernel : PySem.W.findIn K (.ref C_Edition) "kernel" = some (some (.ref f_kernel)))
    (i_kernel : PySem.W.isFn K (.ref f_kernel) = true)
    (l_kernel : K.lookup f_kernel = some ⟨oc_kernel, od_kernel, .func (PySem.W.fnOf "kernel" "Edition.kernel" (defArgs s_Edition_kernel) (defBody s_Edition_kernel) (defScope s_Edition_kernel) .none kV_kernel dc_kernel pm_kernel an_kernel cd_kernel ct_kernel), sl_kernel⟩)
    (c_kernel : PySem.W.codeIn K cd_kernel "Edition.kernel" = true)
    (k_kernel : PySem.W.keepIn K (.ref f_kernel) = true)
    (a_onew : PySem.W.nsIn K mainGlobals "require_one_work" = some (some (.ref f_onew)))
    (l_onew : K.lookup f_onew = some ⟨oc_onew, od_onew, .func (PySem.W.fnOf "require_one_work" "require_one_work" (defArgs s_require_one_work) (defBody s_require_one_work) (defScope s_require_one_work) .none kV_onew dc_onew pm_onew an_onew cd_onew ct_onew), sl_onew⟩)
    (c_onew : PySem.W.codeIn K cd_onew "require_one_work" = true)
    (k_onew : PySem.W.keepIn K (.ref f_onew) = true)
    (a_and : PySem.W.findIn K (.ref C_Edition) "__and__" = some (some (.ref f_and)))
    (i_and : PySem.W.isFn K (.ref f_and) = true)
    (l_and : K.lookup f_and = some ⟨oc_and, od_and, .func (PySem.W.fnOf "__and__" "Edition.__and__" (defArgs s_Edition_and) (defBody s_Edition_and) (defScope s_Edition_and) .none kV_and dc_and pm_and an_and cd_and ct_and), sl_and⟩)
    (c_and : PySem.W.codeIn K cd_and "Edition.__and__" = true)
    (k_and : PySem.W.keepIn K (.ref f_and) = true)
    (a_or : PySem.W.findIn K (.ref C_Edition) "__or__" = some (some (.ref f_or)))
    (i_or : PySem.W.isFn K (.ref f_or) = true)
    (l_or : K.lookup f_or = some ⟨oc_or, od_or, .func (PySem.W.fnOf "__or__" "Edition.__or__" (defArgs s_Edition_or) (defBody s_Edition_or) (defScope s_Edition_or) .none kV_or dc_or pm_or an_or cd_or ct_or), sl_or⟩)
    (c_or : PySem.W.codeIn K cd_or "Edition.__or__" = true)
    (k_or : PySem.W.keepIn K (.ref f_or) = true)
    (a_sub : PySem.W.findIn K (.ref C_Edition) "__sub__" = some (some (.ref f_sub)))
    (i_sub : PySem.W.isFn K (.ref f_sub) = true)
    (l_sub : K.lookup f_sub = some ⟨oc_sub, od_sub, .func (PySem.W.fnOf "__sub__" "Edition.__sub__" (defArgs s_Edition_sub) (defBody s_Edition_sub) (defScope s_Edition_sub) .none kV_sub dc_sub pm_sub an_sub cd_sub ct_sub), sl_sub⟩)
    (c_sub : PySem.W.codeIn K cd_sub "Edition.__sub__" = true)
    (k_sub : PySem.W.keepIn K (.ref f_sub) = true)
    (a_le : PySem.W.findIn K (.ref C_Edition) "__le__" = some (some (.ref f_le)))
    (i_le : PySem.W.isFn K (.ref f_le) = true)
    (l_le : K.lookup f_le = some ⟨oc_le, od_le, .func (PySem.W.fnOf "__le__" "Edition.__le__" (defArgs s_Edition_le) (defBody s_Edition_le) (defScope s_Edition_le) .none kV_le dc_le pm_le an_le cd_le ct_le), sl_le⟩)
    (c_le : PySem.W.codeIn K cd_le "Edition.__le__" = true)
    (k_le : PySem.W.keepIn K (.ref f_le) = true)
    (a_base : PySem.W.nsIn K mainGlobals "_law_base" = some (some (.ref f_base)))
    (l_base : K.lookup f_base = some ⟨oc_base, od_base, .func (PySem.W.fnOf "_law_base" "_law_base" (defArgs s_base) (defBody s_base) (defScope s_base) .none kV_base dc_base pm_base an_base cd_base ct_base), sl_base⟩)
    (c_base : PySem.W.codeIn K cd_base "_law_base" = true)
    (k_base : PySem.W.keepIn K (.ref f_base) = true)
    (a_edn : PySem.W.nsIn K mainGlobals "_law_edition" = some (some (.ref f_edn)))
    (l_edn : K.lookup f_edn = some ⟨oc_edn, od_edn, .func (PySem.W.fnOf "_law_edition" "_law_edition" (defArgs s_edition) (defBody s_edition) (defScope s_edition) .none kV_edn dc_edn pm_edn an_edn cd_edn ct_edn), sl_edn⟩)
    (c_edn : PySem.W.codeIn K cd_edn "_law_edition" = true)
    (k_edn : PySem.W.keepIn K (.ref f_edn) = true)
    (a_row : PySem.W.nsIn K mainGlobals "_law_row" = some (some (.ref f_row)))
    (l_row : K.lookup f_row = some ⟨oc_row, od_row, .func (PySem.W.fnOf "_law_row" "_law_row" (defArgs s_row) (defBody s_row) (defScope s_row) .none kV_row dc_row pm_row an_row cd_row ct_row), sl_row⟩)
    (c_row : PySem.W.codeIn K cd_row "_law_row" = true)
    (k_row : PySem.W.keepIn K (.ref f_row) = true)
    (a_isk : PySem.W.nsIn K mainGlobals "_law_is_kernel" = some (some (.ref f_isk)))
    (l_isk : K.lookup f_isk = some ⟨oc_isk, od_isk, .func (PySem.W.fnOf "_law_is_kernel" "_law_is_kernel" (defArgs s_is_kernel) (defBody s_is_kernel) (defScope s_is_kernel) .none kV_isk dc_isk pm_isk an_isk cd_isk ct_isk), sl_isk⟩)
    (c_isk : PySem.W.codeIn K cd_isk "_law_is_kernel" = true)
    (k_isk : PySem.W.keepIn K (.ref f_isk) = true)
    (a_cr : PySem.W.nsIn K mainGlobals "_law_counts_right" = some (some (.ref f_cr)))
    (l_cr : K.lookup f_cr = some ⟨oc_cr, od_cr, .func (PySem.W.fnOf "_law_counts_right" "_law_counts_right" (defArgs s_counts_right) (defBody s_counts_right) (defScope s_counts_right) .none kV_cr dc_cr pm_cr an_cr cd_cr ct_cr), sl_cr⟩)
    (c_cr : PySem.W.codeIn K cd_cr "_law_counts_right" = true)
    (k_cr : PySem.W.keepIn K (.ref f_cr) = true)
    (a_law : PySem.W.nsIn K mainGlobals "law" = some (some (.ref f_law)))
    (l_law : K.lookup f_law = some ⟨oc_law, od_law, .func (PySem.W.fnOf "law" "law" (defArgs s_law) (defBody s_law) (defScope s_law) .none kV_law dc_law pm_law an_law cd_law ct_law), sl_law⟩)
    (c_law : PySem.W.codeIn K cd_law "law" = true)
    (k_law : PySem.W.keepIn K (.ref f_law) = true)
    (g_LETTERS : PySem.W.nsIn K mainGlobals "LETTERS" = some (some (.str "abcdefghijklmnopqrstuvwxyz" tL)))
    (g_LONGEST_WORD : PySem.W.nsIn K mainGlobals "LONGEST_WORD" = some (some (.int 8 tW)))
    (z_len : PySem.W.nsIn K mainGlobals "len" = some none)
    (z_int : PySem.W.nsIn K mainGlobals "int" = some none)
    (z_range : PySem.W.nsIn K mainGlobals "range" = some none)
    (z_enumerate : PySem.W.nsIn K mainGlobals "enumerate" = some none)
    (z_isinstance : PySem.W.nsIn K mainGlobals "isinstance" = some none)
    (z_list : PySem.W.nsIn K mainGlobals "list" = some none)
    (z_tuple : PySem.W.nsIn K mainGlobals "tuple" = some none)
    (z_str : PySem.W.nsIn K mainGlobals "str" = some none)
    (z_bool : PySem.W.nsIn K mainGlobals "bool" = some none)
    (z_all : PySem.W.nsIn K mainGlobals "all" = some none)
    (z_max : PySem.W.nsIn K mainGlobals "max" = some none)
    (z_zip : PySem.W.nsIn K mainGlobals "zip" = some none)
    : ∃ fd : FuncData, (∀ (s : Shared) (v : Value), BindsTo s fd ⟨[v], []⟩ [("_law_script", v)]) ∧ ∀ base : Heap, K.In base → base.Ns mainGlobals mg → FnOk l.prog w K mg base CX0 7 fa fd ["_law_script"] (spLaw K) := by
  have e := hfa.symm.trans (PySem.W.mg_of X G a_law)
  cases e
  have T : Blt mg := ⟨PySem.W.mg_none_of X G z_len, PySem.W.mg_none_of X G z_int, PySem.W.mg_none_of X G z_range, PySem.W.mg_none_of X G z_enumerate, PySem.W.mg_none_of X G z_isinstance, PySem.W.mg_none_of X G z_list, PySem.W.mg_none_of X G z_tuple, PySem.W.mg_none_of X G z_str, PySem.W.mg_none_of X G z_bool, PySem.W.mg_none_of X G z_all, PySem.W.mg_none_of X G z_max, PySem.W.mg_none_of X G z_zip⟩
  have cl_Work : Cls K C_Work := ⟨pg_Work, hd_Work, po_Work, sa_Work⟩
  have mg_Work := PySem.W.mg_of X G a_Work
  have cl_Edition : Cls K C_Edition := ⟨pg_Edition, hd_Edition, po_Edition, sa_Edition⟩
  have mg_Edition := PySem.W.mg_of X G a_Edition
  have TC : Cst mg tL tW := ⟨PySem.W.mg_of X G g_LETTERS, PySem.W.mg_of X G g_LONGEST_WORD⟩
  have WT : WkTxt K C_Work := ⟨cl_Work, n_Work_name, n_Work_words, n_Work_ends⟩
  have ET : EdTxt K C_Edition := ⟨cl_Edition, n_Edition_work, n_Edition_words, n_Edition_cuts, n_Edition_counts⟩
  have TI : WkIsi K mg C_Work := ⟨mg_Work, ha_Work, hn_Work, htk_Work, hm_Work, if_pos (beq_self_eq_true _)⟩
  have TN : WkNe K C_Work := ⟨ne_Work, ob_Work⟩
  have F_fresh := fun_mk (st := s_fresh) l_fresh c_fresh k_fresh
  have b_fresh := F_fresh.binds (ps := ["_law_script"]) fun _ _ _ _ _ _ us hl => match us, hl with | [_], _ => rfl
  have F_fill := fun_mk (st := s_fill) l_fill c_fill k_fill
  have b_fill := F_fill.binds (ps := ["_law_state"]) fun _ _ _ _ _ _ us hl => match us, hl with | [_], _ => rfl
  have F_take := fun_mk (st := s_take) l_take c_take k_take
  have b_take := F_take.binds (ps := ["_law_state", "_law_many"]) fun _ _ _ _ _ _ us hl => match us, hl with | [_, _], _ => rfl
  have F_one := fun_mk (st := s_one) l_one c_one k_one
  have b_one := F_one.binds (ps := ["_law_state", "_law_things"]) fun _ _ _ _ _ _ us hl => match us, hl with | [_, _], _ => rfl
  have F_allw := fun_mk (st := s_all_words) l_allw c_allw k_allw
  have b_allw := F_allw.binds (ps := []) fun _ _ _ _ _ _ us hl => match us, hl with | [], _ => rfl
  have F_somew := fun_mk (st := s_some_words) l_somew c_somew k_somew
  have b_somew := F_somew.binds (ps := ["_law_state", "_law_many"]) fun _ _ _ _ _ _ us hl => match us, hl with | [_, _], _ => rfl
  have F_kept := fun_mk (st := s_kept) l_kept c_kept k_kept
  have b_kept := F_kept.binds (ps := ["_law_state", "_law_many"]) fun _ _ _ _ _ _ us hl => match us, hl with | [_, _], _ => rfl
  have F_isnum := fun_mk (st := s_is_number) l_isnum c_isnum k_isnum
  have b_isnum := F_isnum.binds (ps := ["x"]) fun _ _ _ _ _ _ us hl => match us, hl with | [_], _ => rfl
  have F_upto := fun_mk (st := s_is_up_to) l_upto c_upto k_upto
  have b_upto := F_upto.binds (ps := ["x", "most"]) fun _ _ _ _ _ _ us hl => match us, hl with | [_, _], _ => rfl
  have F_isrow := fun_mk (st := s_is_row) l_isrow c_isrow k_isrow
  have b_isrow := F_isrow.binds (ps := ["x"]) fun _ _ _ _ _ _ us hl => match us, hl with | [_], _ => rfl
  have F_isword := fun_mk (st := s_is_word) l_isword c_isword k_isword
  have b_isword := F_isword.binds (ps := ["x"]) fun _ _ _ _ _ _ us hl => match us, hl with | [_], _ => rfl
  have F_wkinit := fun_mk (st := s_Work_init) l_wkinit c_wkinit k_wkinit
  have b_wkinit := F_wkinit.binds (ps := ["self", "name", "passages"]) fun _ _ _ _ _ _ us hl => match us, hl with | [_, _, _], _ => rfl
  have F_wklen := fun_mk (st := s_Work_len) l_wklen c_wklen k_wklen
  have b_wklen := F_wklen.binds (ps := ["self"]) fun _ _ _ _ _ _ us hl => match us, hl with | [_], _ => rfl
  have F_wkin := fun_mk (st := s_Work_contains) l_wkin c_wkin k_wkin
  have b_wkin := F_wkin.binds (ps := ["self", "x"]) fun _ _ _ _ _ _ us hl => match us, hl with | [_, _], _ => rfl
  have F_wkend := fun_mk (st := s_Work_end_of) l_wkend c_wkend k_wkend
  have b_wkend := F_wkend.binds (ps := ["self", "word"]) fun _ _ _ _ _ _ us hl => match us, hl with | [_, _], _ => rfl
  have F_wkeq := fun_mk (st := s_Work_eq) l_wkeq c_wkeq k_wkeq
  have b_wkeq := F_wkeq.binds (ps := ["self", "other"]) fun _ _ _ _ _ _ us hl => match us, hl with | [_, _], _ => rfl
  have F_cuts := fun_mk (st := s_cuts_behind) l_cuts c_cuts k_cuts
  have b_cuts := F_cuts.binds (ps := ["work", "passages"]) fun _ _ _ _ _ _ us hl => match us, hl with | [_, _], _ => rfl
  have F_counts := fun_mk (st := s_counts_at) l_counts c_counts k_counts
  have b_counts := F_counts.binds (ps := ["cuts", "length"]) fun _ _ _ _ _ _ us hl => match us, hl with | [_, _], _ => rfl
  have F_edinit := fun_mk (st := s_Edition_init) l_edinit c_edinit k_edinit
  have b_edinit := F_edinit.binds (ps := ["self", "work", "passages"]) fun _ _ _ _ _ _ us hl => match us, hl with | [_, _, _], _ => rfl
  have F_whole := fun_mk (st := s_Work_whole) l_whole c_whole k_whole
  have b_whole := F_whole.binds (ps := ["self"]) fun _ _ _ _ _ _ us hl => match us, hl with | [_], _ => rfl
  have F_edlen := fun_mk (st := s_Edition_len) l_edlen c_edlen k_edlen
  have b_edlen := F_edlen.binds (ps := ["self"]) fun _ _ _ _ _ _ us hl => match us, hl with | [_], _ => rfl
  have F_edin := fun_mk (st := s_Edition_contains) l_edin c_edin k_edin
  have b_edin := F_edin.binds (ps := ["self", "x"]) fun _ _ _ _ _ _ us hl => match us, hl with | [_, _], _ => rfl
  have F_rcount := fun_mk (st := s_require_count) l_rcount c_rcount k_rcount
  have b_rcount := F_rcount.binds (ps := ["count", "edition"]) fun _ _ _ _ _ _ us hl => match us, hl with | [_, _], _ => rfl
  have F_rcut := fun_mk (st := s_require_cut) l_rcut c_rcut k_rcut
  have b_rcut := F_rcut.binds (ps := ["cut", "work"]) fun _ _ _ _ _ _ us hl => match us, hl with | [_, _], _ => rfl
  have F_cutb := fun_mk (st := s_Edition_cut_behind) l_cutb c_cutb k_cutb
  have b_cutb := F_cutb.binds (ps := ["self", "count"]) fun _ _ _ _ _ _ us hl => match us, hl with | [_, _], _ => rfl
  have F_countat := fun_mk (st := s_Edition_count_at) l_countat c_countat k_countat
  have b_countat := F_countat.binds (ps := ["self", "cut"]) fun _ _ _ _ _ _ us hl => match us, hl with | [_, _], _ => rfl
  have F_kernel := fun_mk (st := s_Edition_kernel) l_kernel c_kernel k_kernel
  have b_kernel := F_kernel.binds (ps := ["self", "cut"]) fun _ _ _ _ _ _ us hl => match us, hl with | [_, _], _ => rfl
  have F_onew := fun_mk (st := s_require_one_work) l_onew c_onew k_onew
  have b_onew := F_onew.binds (ps := ["one", "other"]) fun _ _ _ _ _ _ us hl => match us, hl with | [_, _], _ => rfl
  have F_and := fun_mk (st := s_Edition_and) l_and c_and k_and
  have b_and := F_and.binds (ps := ["self", "other"]) fun _ _ _ _ _ _ us hl => match us, hl with | [_, _], _ => rfl
  have F_or := fun_mk (st := s_Edition_or) l_or c_or k_or
  have b_or := F_or.binds (ps := ["self", "other"]) fun _ _ _ _ _ _ us hl => match us, hl with | [_, _], _ => rfl
  have F_sub := fun_mk (st := s_Edition_sub) l_sub c_sub k_sub
  have b_sub := F_sub.binds (ps := ["self", "other"]) fun _ _ _ _ _ _ us hl => match us, hl with | [_, _], _ => rfl
  have F_le := fun_mk (st := s_Edition_le) l_le c_le k_le
  have b_le := F_le.binds (ps := ["self", "other"]) fun _ _ _ _ _ _ us hl => match us, hl with | [_, _], _ => rfl
  have F_base := fun_mk (st := s_base) l_base c_base k_base
  have b_base := F_base.binds (ps := ["_law_state", "_law_many"]) fun _ _ _ _ _ _ us hl => match us, hl with | [_, _], _ => rfl
  have F_edn := fun_mk (st := s_edition) l_edn c_edn k_edn
  have b_edn := F_edn.binds (ps := ["_law_base_here", "_law_rows", "_law_numbers"]) fun _ _ _ _ _ _ us hl => match us, hl with | [_, _, _], _ => rfl
  have F_row := fun_mk (st := s_row) l_row c_row k_row
  have b_row := F_row.binds (ps := ["_law_made", "_law_far"]) fun _ _ _ _ _ _ us hl => match us, hl with | [_, _], _ => rfl
  have F_isk := fun_mk (st := s_is_kernel) l_isk c_isk k_isk
  have b_isk := F_isk.binds (ps := ["_law_made", "_law_rows", "_law_told"]) fun _ _ _ _ _ _ us hl => match us, hl with | [_, _, _], _ => rfl
  have F_cr := fun_mk (st := s_counts_right) l_cr c_cr k_cr
  have b_cr := F_cr.binds (ps := ["_law_made", "_law_far"]) fun _ _ _ _ _ _ us hl => match us, hl with | [_, _], _ => rfl
  have F_law := fun_mk (st := s_law) l_law c_law k_law
  refine ⟨PySem.W.fnOf "law" "law" (defArgs s_law) (defBody s_law) (defScope s_law) .none kV_law dc_law pm_law an_law cd_law ct_law, fun s v => .of_eq rfl, fun base _ _ => ?_⟩
  have O_fresh : FnOk l.prog w K mg base CX0 1 f_fresh _ ["_law_script"] (spFresh K) := ok_fresh F_fresh T
  have D_fresh : DefOk l.prog w K mg base 1 "_law_fresh" f_fresh _ ["_law_script"] (spFresh K) := ⟨O_fresh, k_fresh, b_fresh, PySem.W.mg_of X G a_fresh⟩
  have O_fill : FnOk l.prog w K mg base CX0 1 f_fill _ ["_law_state"] spFill := ok_fill F_fill T
  have D_fill : DefOk l.prog w K mg base 1 "_law_fill" f_fill _ ["_law_state"] spFill := ⟨O_fill, k_fill, b_fill, PySem.W.mg_of X G a_fill⟩
  have O_take : FnOk l.prog w K mg base CX0 2 f_take _ ["_law_state", "_law_many"] spTake := ok_take F_take T D_fill
  have D_take : DefOk l.prog w K mg base 2 "_law_take" f_take _ ["_law_state", "_law_many"] spTake := ⟨O_take, k_take, b_take, PySem.W.mg_of X G a_take⟩
  have O_one : FnOk l.prog w K mg base CX0 3 f_one _ ["_law_state", "_law_things"] (spOne K) := ok_one F_one T D_take
  have D_one : DefOk l.prog w K mg base 3 "_law_one" f_one _ ["_law_state", "_law_things"] (spOne K) := ⟨O_one, k_one, b_one, PySem.W.mg_of X G a_one⟩
  have O_allw : FnOk l.prog w K mg base CX0 1 f_allw _ [] spAllW := ok_all_words F_allw T
  have D_all_words : DefOk l.prog w K mg base 1 "_law_all_words" f_allw _ [] spAllW := ⟨O_allw, k_allw, b_allw, PySem.W.mg_of X G a_allw⟩
  have O_somew : FnOk l.prog w K mg base CX0 3 f_somew _ ["_law_state", "_law_many"] spSomeW := ok_some_words F_somew T D_take D_all_words
  have D_some_words : DefOk l.prog w K mg base 3 "_law_some_words" f_somew _ ["_law_state", "_law_many"] spSomeW := ⟨O_somew, k_somew, b_somew, PySem.W.mg_of X G a_somew⟩
  have O_kept : FnOk l.prog w K mg base CX0 4 f_kept _ ["_law_state", "_law_many"] spKept := ok_kept F_kept T D_take D_one
  have D_kept : DefOk l.prog w K mg base 4 "_law_kept" f_kept _ ["_law_state", "_law_many"] spKept := ⟨O_kept, k_kept, b_kept, PySem.W.mg_of X G a_kept⟩
  have O_isnum : FnOk l.prog w K mg base CX0 1 f_isnum _ ["x"] spIsNum := ok_is_number F_isnum T
  have D_is_number : DefOk l.prog w K mg base 1 "is_number" f_isnum _ ["x"] spIsNum := ⟨O_isnum, k_isnum, b_isnum, PySem.W.mg_of X G a_isnum⟩
  have O_upto : FnOk l.prog w K mg base CX0 2 f_upto _ ["x", "most"] spUpTo := ok_is_up_to F_upto T D_is_number
  have D_is_up_to : DefOk l.prog w K mg base 2 "is_up_to" f_upto _ ["x", "most"] spUpTo := ⟨O_upto, k_upto, b_upto, PySem.W.mg_of X G a_upto⟩
  have O_isrow : FnOk l.prog w K mg base CX0 1 f_isrow _ ["x"] spIsRow := ok_is_row F_isrow T
  have D_is_row : DefOk l.prog w K mg base 1 "is_row" f_isrow _ ["x"] spIsRow := ⟨O_isrow, k_isrow, b_isrow, PySem.W.mg_of X G a_isrow⟩
  have O_isword : FnOk l.prog w K mg base CX0 1 f_isword _ ["x"] spIsWord := ok_is_word F_isword T TC
  have D_is_word : DefOk l.prog w K mg base 1 "is_word" f_isword _ ["x"] spIsWord := ⟨O_isword, k_isword, b_isword, PySem.W.mg_of X G a_isword⟩
  have O_wkinit : FnOk l.prog w K mg base CX0 2 f_wkinit _ ["self", "name", "passages"] (spWkInit C_Work) := ok_wk_init F_wkinit T WT D_is_word D_is_row
  have K_Work : ClsOk l.prog w K mg base 2 "Work" C_Work f_wkinit _ ["self", "name", "passages"] (spWkInit C_Work) := ⟨O_wkinit, b_wkinit, ⟨mk_Work, a_wkinit, i_wkinit, kc_Work⟩, cl_Work, mg_Work⟩
  have O_wklen : FnOk l.prog w K mg base CX0 1 f_wklen _ ["self"] (spWkLen C_Work) := ok_wk_len F_wklen T WT
  have M_Work_len : MetOk l.prog w K mg base 1 C_Work "__len__" f_wklen _ ["self"] (spWkLen C_Work) := ⟨O_wklen, b_wklen, ⟨a_wklen, i_wklen, k_wklen⟩, cl_Work⟩
  have O_wkin : FnOk l.prog w K mg base CX0 1 f_wkin _ ["self", "x"] (spWkIn C_Work) := ok_wk_in F_wkin T WT
  have M_Work_contains : MetOk l.prog w K mg base 1 C_Work "__contains__" f_wkin _ ["self", "x"] (spWkIn C_Work) := ⟨O_wkin, b_wkin, ⟨a_wkin, i_wkin, k_wkin⟩, cl_Work⟩
  have O_wkend : FnOk l.prog w K mg base CX0 2 f_wkend _ ["self", "word"] (spWkEnd C_Work) := ok_wk_end F_wkend T WT M_Work_contains
  have M_Work_end_of : MetOk l.prog w K mg base 2 C_Work "end_of" f_wkend _ ["self", "word"] (spWkEnd C_Work) := ⟨O_wkend, b_wkend, ⟨a_wkend, i_wkend, k_wkend⟩, cl_Work⟩
  have O_wkeq : FnOk l.prog w K mg base CX0 1 f_wkeq _ ["self", "other"] (spWkEq C_Work) := ok_wk_eq F_wkeq T WT TI
  have M_Work_eq : MetOk l.prog w K mg base 1 C_Work "__eq__" f_wkeq _ ["self", "other"] (spWkEq C_Work) := ⟨O_wkeq, b_wkeq, ⟨a_wkeq, i_wkeq, k_wkeq⟩, cl_Work⟩
  have O_cuts : FnOk l.prog w K mg base CX0 3 f_cuts _ ["work", "passages"] (spCuts C_Work) := ok_cuts F_cuts T D_is_row M_Work_end_of
  have D_cuts_behind : DefOk l.prog w K mg base 3 "cuts_behind" f_cuts _ ["work", "passages"] (spCuts C_Work) := ⟨O_cuts, k_cuts, b_cuts, PySem.W.mg_of X G a_cuts⟩
  have O_counts : FnOk l.prog w K mg base CX0 1 f_counts _ ["cuts", "length"] spCounts := ok_counts F_counts T
  have D_counts_at : DefOk l.prog w K mg base 1 "counts_at" f_counts _ ["cuts", "length"] spCounts := ⟨O_counts, k_counts, b_counts, PySem.W.mg_of X G a_counts⟩
  have O_edinit : FnOk l.prog w K mg base CX0 4 f_edinit _ ["self", "work", "passages"] (spEdInit C_Work C_Edition) := ok_ed_init F_edinit T ET D_cuts_behind D_counts_at M_Work_len
  have K_Edition : ClsOk l.prog w K mg base 4 "Edition" C_Edition f_edinit _ ["self", "work", "passages"] (spEdInit C_Work C_Edition) := ⟨O_edinit, b_edinit, ⟨mk_Edition, a_edinit, i_edinit, kc_Edition⟩, cl_Edition, mg_Edition⟩
  have O_whole : FnOk l.prog w K mg base CX0 6 f_whole _ ["self"] (spWhole C_Work C_Edition) := ok_whole F_whole WT K_Edition
  have M_Work_whole : MetOk l.prog w K mg base 6 C_Work "whole" f_whole _ ["self"] (spWhole C_Work C_Edition) := ⟨O_whole, b_whole, ⟨a_whole, i_whole, k_whole⟩, cl_Work⟩
  have O_edlen : FnOk l.prog w K mg base CX0 1 f_edlen _ ["self"] (spEdLen C_Work C_Edition) := ok_ed_len F_edlen T ET
  have M_Edition_len : MetOk l.prog w K mg base 1 C_Edition "__len__" f_edlen _ ["self"] (spEdLen C_Work C_Edition) := ⟨O_edlen, b_edlen, ⟨a_edlen, i_edlen, k_edlen⟩, cl_Edition⟩
  have O_edin : FnOk l.prog w K mg base CX0 1 f_edin _ ["self", "x"] (spEdIn C_Work C_Edition) := ok_ed_in F_edin T ET
  have M_Edition_contains : MetOk l.prog w K mg base 1 C_Edition "__contains__" f_edin _ ["self", "x"] (spEdIn C_Work C_Edition) := ⟨O_edin, b_edin, ⟨a_edin, i_edin, k_edin⟩, cl_Edition⟩
  have O_rcount : FnOk l.prog w K mg base CX0 3 f_rcount _ ["count", "edition"] (spReqCount C_Work C_Edition) := ok_req_count F_rcount T D_is_up_to M_Edition_len
  have D_require_count : DefOk l.prog w K mg base 3 "require_count" f_rcount _ ["count", "edition"] (spReqCount C_Work C_Edition) := ⟨O_rcount, k_rcount, b_rcount, PySem.W.mg_of X G a_rcount⟩
  have O_rcut : FnOk l.prog w K mg base CX0 3 f_rcut _ ["cut", "work"] (spReqCut C_Work) := ok_req_cut F_rcut T D_is_up_to M_Work_len
  have D_require_cut : DefOk l.prog w K mg base 3 "require_cut" f_rcut _ ["cut", "work"] (spReqCut C_Work) := ⟨O_rcut, k_rcut, b_rcut, PySem.W.mg_of X G a_rcut⟩
  have O_cutb : FnOk l.prog w K mg base CX0 4 f_cutb _ ["self", "count"] (spCutB C_Work C_Edition) := ok_cutb F_cutb ET D_require_count
  have M_Edition_cut_behind : MetOk l.prog w K mg base 4 C_Edition "cut_behind" f_cutb _ ["self", "count"] (spCutB C_Work C_Edition) := ⟨O_cutb, b_cutb, ⟨a_cutb, i_cutb, k_cutb⟩, cl_Edition⟩
  have O_countat : FnOk l.prog w K mg base CX0 4 f_countat _ ["self", "cut"] (spCountAt C_Work C_Edition) := ok_count_at F_countat ET D_require_cut
  have M_Edition_count_at : MetOk l.prog w K mg base 4 C_Edition "count_at" f_countat _ ["self", "cut"] (spCountAt C_Work C_Edition) := ⟨O_countat, b_countat, ⟨a_countat, i_countat, k_countat⟩, cl_Edition⟩
  have O_kernel : FnOk l.prog w K mg base CX0 5 f_kernel _ ["self", "cut"] (spKernel C_Work C_Edition) := ok_kernel F_kernel M_Edition_cut_behind M_Edition_count_at
  have M_Edition_kernel : MetOk l.prog w K mg base 5 C_Edition "kernel" f_kernel _ ["self", "cut"] (spKernel C_Work C_Edition) := ⟨O_kernel, b_kernel, ⟨a_kernel, i_kernel, k_kernel⟩, cl_Edition⟩
  have O_onew : FnOk l.prog w K mg base CX0 3 f_onew _ ["one", "other"] (spOneW C_Work C_Edition) := ok_onew F_onew ET TN M_Work_eq
  have D_require_one_work : DefOk l.prog w K mg base 3 "require_one_work" f_onew _ ["one", "other"] (spOneW C_Work C_Edition) := ⟨O_onew, k_onew, b_onew, PySem.W.mg_of X G a_onew⟩
  have O_and : FnOk l.prog w K mg base CX0 6 f_and _ ["self", "other"] (spJoin C_Work C_Edition fun a b => a && b) := ok_and F_and ET D_require_one_work K_Edition
  have M_Edition_and : MetOk l.prog w K mg base 6 C_Edition "__and__" f_and _ ["self", "other"] (spJoin C_Work C_Edition fun a b => a && b) := ⟨O_and, b_and, ⟨a_and, i_and, k_and⟩, cl_Edition⟩
  have O_or : FnOk l.prog w K mg base CX0 6 f_or _ ["self", "other"] (spJoin C_Work C_Edition fun a b => a || b) := ok_or F_or ET WT D_require_one_work K_Edition
  have M_Edition_or : MetOk l.prog w K mg base 6 C_Edition "__or__" f_or _ ["self", "other"] (spJoin C_Work C_Edition fun a b => a || b) := ⟨O_or, b_or, ⟨a_or, i_or, k_or⟩, cl_Edition⟩
  have O_sub : FnOk l.prog w K mg base CX0 6 f_sub _ ["self", "other"] (spJoin C_Work C_Edition fun a b => a && !b) := ok_sub F_sub ET D_require_one_work K_Edition
  have M_Edition_sub : MetOk l.prog w K mg base 6 C_Edition "__sub__" f_sub _ ["self", "other"] (spJoin C_Work C_Edition fun a b => a && !b) := ⟨O_sub, b_sub, ⟨a_sub, i_sub, k_sub⟩, cl_Edition⟩
  have O_le : FnOk l.prog w K mg base CX0 4 f_le _ ["self", "other"] (spLe C_Work C_Edition) := ok_le F_le T ET D_require_one_work
  have M_Edition_le : MetOk l.prog w K mg base 4 C_Edition "__le__" f_le _ ["self", "other"] (spLe C_Work C_Edition) := ⟨O_le, b_le, ⟨a_le, i_le, k_le⟩, cl_Edition⟩
  have O_base : FnOk l.prog w K mg base CX0 4 f_base _ ["_law_state", "_law_many"] (spBase C_Work) := ok_base F_base T D_some_words K_Work
  have D_base : DefOk l.prog w K mg base 4 "_law_base" f_base _ ["_law_state", "_law_many"] (spBase C_Work) := ⟨O_base, k_base, b_base, PySem.W.mg_of X G a_base⟩
  have O_edn : FnOk l.prog w K mg base CX0 6 f_edn _ ["_law_base_here", "_law_rows", "_law_numbers"] (spEdn C_Work C_Edition) := ok_edn F_edn K_Edition
  have D_edition : DefOk l.prog w K mg base 6 "_law_edition" f_edn _ ["_law_base_here", "_law_rows", "_law_numbers"] (spEdn C_Work C_Edition) := ⟨O_edn, k_edn, b_edn, PySem.W.mg_of X G a_edn⟩
  have O_row : FnOk l.prog w K mg base CX0 6 f_row _ ["_law_made", "_law_far"] (spRow C_Work C_Edition) := ok_row F_row T M_Edition_kernel
  have D_row : DefOk l.prog w K mg base 6 "_law_row" f_row _ ["_law_made", "_law_far"] (spRow C_Work C_Edition) := ⟨O_row, k_row, b_row, PySem.W.mg_of X G a_row⟩
  have O_isk : FnOk l.prog w K mg base CX0 2 f_isk _ ["_law_made", "_law_rows", "_law_told"] (spIsK C_Work C_Edition) := ok_isk F_isk T M_Edition_contains
  have D_is_kernel : DefOk l.prog w K mg base 2 "_law_is_kernel" f_isk _ ["_law_made", "_law_rows", "_law_told"] (spIsK C_Work C_Edition) := ⟨O_isk, k_isk, b_isk, PySem.W.mg_of X G a_isk⟩
  have O_cr : FnOk l.prog w K mg base CX0 5 f_cr _ ["_law_made", "_law_far"] (spCR C_Work C_Edition) := ok_cr F_cr T M_Edition_len M_Edition_count_at M_Edition_cut_behind
  have D_counts_right : DefOk l.prog w K mg base 5 "_law_counts_right" f_cr _ ["_law_made", "_law_far"] (spCR C_Work C_Edition) := ⟨O_cr, k_cr, b_cr, PySem.W.mg_of X G a_cr⟩
  exact ok_law F_law ⟨T, sf_Edition⟩ D_fresh D_take D_one D_base D_kept D_edition D_row D_is_kernel D_counts_right M_Edition_or M_Edition_and M_Edition_sub M_Edition_le M_Work_whole
theorem walk {l : PySem.W.OpenLaw} {q : Program} {loose : List Str} {XP : (Str → Option Value) → Heap → Prop} {YP : World → Heap → Prop} {d : DefRec} {K : Params → PySem.W.Frag} (hn : l.most = some 63) (hdf : d.params.defaults = [])
    (hY : ∀ (w : World) (h : Heap), YP w h → (K w.params).In h)
    (F : ∀ (w : World) (mg : Str → Option Value) (fa : Addr) (h : Heap), (K w.params).In h → h.Ns mainGlobals mg → mg d.name = some (.ref fa) →
      ∃ fd : FuncData, (∀ (s : Shared) (u : Value), BindsTo s fd ⟨[u], []⟩ [("_law_script", u)]) ∧ ∀ base : Heap, (K w.params).In base → base.Ns mainGlobals mg → FnOk l.prog w (K w.params) mg base CX0 7 fa fd ["_law_script"] (spLaw (K w.params))) :
    PySem.W.WalkO q loose XP YP l.row.toRowW d [] (fun f vs => PySem.call f vs) :=
  L2.walk_of (n := 63) (k := 7) (x := "_law_script") (CX := fun _ => CX0) (sp := fun w => spLaw (K w.params)) hn (by decide) hdf ⟨rfl, by decide, by decide⟩ hY F (fun _ _ a ns hl _ hS => ⟨a, ns, rfl, hS, hl, fun _ => rfl⟩) fun _ _ _ _ _ z => z
end Lm

open PySem PySem.W PyProof.Rows
set_option maxRecDepth 100000 in
set_option maxHeartbeats 0 in
theorem PySem.Challenge.cw_leafmarks_k08_whole_kernels_of_joined_ed_holds : PySem.Challenge.rw_leafmarks_k08_whole_kernels_of_joined_ed.Holds := by
  w_on; o_law; k_head; (case hw => w_witness2)
  k_fill
  refine Lm.walk (l := PySem.Challenge.rw_leafmarks_k08_whole_kernels_of_joined_ed) rfl rfl (fun w h Y => PySem.W.kIn_of Y) ?F
  case F =>
    intro w mg fa h KX G hmg
    refine' Lm.all_mk KX G hmg ?a_Work ?pg_Work ?hd_Work ?po_Work ?sa_Work ?mk_Work ?kc_Work ?n_Work_name ?n_Work_words ?n_Work_ends ?ha_Work ?hn_Work ?htk_Work ?hm_Work ?ne_Work ?ob_Work ?a_Edition ?pg_Edition ?hd_Edition ?po_Edition ?sa_Edition ?mk_Edition ?kc_Edition ?n_Edition_work ?n_Edition_words ?n_Edition_cuts ?n_Edition_counts ?sf_Edition ?a_fresh ?l_fresh ?c_fresh ?k_fresh ?a_fill ?l_fill ?c_fill ?k_fill ?a_take ?l_take ?c_take ?k_take ?a_one ?l_one ?c_one ?k_one ?a_allw ?l_allw ?c_allw ?k_allw ?a_somew ?l_somew ?c_somew ?k_somew ?a_kept ?l_kept ?c_kept ?k_kept ?a_isnum ?l_isnum ?c_isnum ?k_isnum ?a_upto ?l_upto ?c_upto ?k_upto ?a_isrow ?l_isrow ?c_isrow ?k_isrow ?a_isword ?l_isword ?c_isword ?k_isword ?a_wkinit ?i_wkinit ?l_wkinit ?c_wkinit ?k_wkinit ?a_wklen ?i_wklen ?l_wklen ?c_wklen ?k_wklen ?a_wkin ?i_wkin ?l_wkin ?c_wkin ?k_wkin ?a_wkend ?i_wkend ?l_wkend ?c_wkend ?k_wkend ?a_wkeq ?i_wkeq ?l_wkeq ?c_wkeq ?k_wkeq ?a_cuts ?l_cuts ?c_cuts ?k_cuts ?a_counts ?l_counts ?c_counts ?k_counts ?a_edinit ?i_edinit ?l_edinit ?c_edinit ?k_edinit ?a_whole ?i_whole ?l_whole ?c_whole ?k_whole ?a_edlen ?i_edlen ?l_edlen ?c_edlen ?k_edlen ?a_edin ?i_edin ?l_edin ?c_edin ?k_edin ?a_rcount ?l_rcount ?c_rcount ?k_rcount ?a_rcut ?l_rcut ?c_rcut ?k_rcut ?a_cutb ?i_cutb ?l_cutb ?c_cutb ?k_cutb ?a_countat ?i_countat ?l_countat ?c_countat ?k_countat ?a_kernel ?i_kernel ?l_kernel ?c_kernel ?k_kernel ?a_onew ?l_onew ?c_onew ?k_onew ?a_and ?i_and ?l_and ?c_and ?k_and ?a_or ?i_or ?l_or ?c_or ?k_or ?a_sub ?i_sub ?l_sub ?c_sub ?k_sub ?a_le ?i_le ?l_le ?c_le ?k_le ?a_base ?l_base ?c_base ?k_base ?a_edn ?l_edn ?c_edn ?k_edn ?a_row ?l_row ?c_row ?k_row ?a_isk ?l_isk ?c_isk ?k_isk ?a_cr ?l_cr ?c_cr ?k_cr ?a_law ?l_law ?c_law ?k_law ?g_LETTERS ?g_LONGEST_WORD ?z_len ?z_int ?z_range ?z_enumerate ?z_isinstance ?z_list ?z_tuple ?z_str ?z_bool ?z_all ?z_max ?z_zip
    (case a_Work => k_is)
    (case pg_Work => k_is)
    (case hd_Work => k_is)
    (case po_Work => k_is)
    (case sa_Work => k_is)
    (case mk_Work => k_is)
    (case kc_Work => k_is)
    (case n_Work_name => k_is)
    (case n_Work_words => k_is)
    (case n_Work_ends => k_is)
    (case ha_Work => k_is)
    (case hn_Work => k_is)
    (case htk_Work => k_is)
    (case hm_Work => k_is)
    (case ne_Work => k_is)
    (case ob_Work => k_is)
    (case a_Edition => k_is)
    (case pg_Edition => k_is)
    (case hd_Edition => k_is)
    (case po_Edition => k_is)
    (case sa_Edition => k_is)
    (case mk_Edition => k_is)
    (case kc_Edition => k_is)
    (case n_Edition_work => k_is)
    (case n_Edition_words => k_is)
    (case n_Edition_cuts => k_is)
    (case n_Edition_counts => k_is)
    (case sf_Edition => k_is)
    (case a_fresh => k_is)
    (case l_fresh => k_is)
    (case c_fresh => k_is)
    (case k_fresh => k_is)
    (case a_fill => k_is)
    (case l_fill => k_is)
    (case c_fill => k_is)
    (case k_fill => k_is)
    (case a_take => k_is)
    (case l_take => k_is)
    (case c_take => k_is)
    (case k_take => k_is)
    (case a_one => k_is)
    (case l_one => k_is)
    (case c_one => k_is)
    (case k_one => k_is)
    (case a_allw => k_is)
    (case l_allw => k_is)
    (case c_allw => k_is)
    (case k_allw => k_is)
    (case a_somew => k_is)
    (case l_somew => k_is)
    (case c_somew => k_is)
    (case k_somew => k_is)
    (case a_kept => k_is)
    (case l_kept => k_is)
    (case c_kept => k_is)
    (case k_kept => k_is)
    (case a_isnum => k_is)
    (case l_isnum => k_is)
    (case c_isnum => k_is)
    (case k_isnum => k_is)
    (case a_upto => k_is)
    (case l_upto => k_is)
    (case c_upto => k_is)
    (case k_upto => k_is)
    (case a_isrow => k_is)
    (case l_isrow => k_is)
    (case c_isrow => k_is)
    (case k_isrow => k_is)
    (case a_isword => k_is)
    (case l_isword => k_is)
    (case c_isword => k_is)
    (case k_isword => k_is)
    (case a_wkinit => k_is)
    (case i_wkinit => k_is)
    (case l_wkinit => k_is)
    (case c_wkinit => k_is)
    (case k_wkinit => k_is)
    (case a_wklen => k_is)
    (case i_wklen => k_is)
    (case l_wklen => k_is)
    (case c_wklen => k_is)
    (case k_wklen => k_is)
    (case a_wkin => k_is)
    (case i_wkin => k_is)
    (case l_wkin => k_is)
    (case c_wkin => k_is)
    (case k_wkin => k_is)
    (case a_wkend => k_is)
    (case i_wkend => k_is)
    (case l_wkend => k_is)
    (case c_wkend => k_is)
    (case k_wkend => k_is)
    (case a_wkeq => k_is)
    (case i_wkeq => k_is)
    (case l_wkeq => k_is)
    (case c_wkeq => k_is)
    (case k_wkeq => k_is)
    (case a_cuts => k_is)
    (case l_cuts => k_is)
    (case c_cuts => k_is)
    (case k_cuts => k_is)
    (case a_counts => k_is)
    (case l_counts => k_is)
    (case c_counts => k_is)
    (case k_counts => k_is)
    (case a_edinit => k_is)
    (case i_edinit => k_is)
    (case l_edinit => k_is)
    (case c_edinit => k_is)
    (case k_edinit => k_is)
    (case a_whole => k_is)
    (case i_whole => k_is)
    (case l_whole => k_is)
    (case c_whole => k_is)
    (case k_whole => k_is)
    (case a_edlen => k_is)
    (case i_edlen => k_is)
    (case l_edlen => k_is)
    (case c_edlen => k_is)
    (case k_edlen => k_is)
    (case a_edin => k_is)
    (case i_edin => k_is)
    (case l_edin => k_is)
    (case c_edin => k_is)
    (case k_edin => k_is)
    (case a_rcount => k_is)
    (case l_rcount => k_is)
    (case c_rcount => k_is)
    (case k_rcount => k_is)
    (case a_rcut => k_is)
    (case l_rcut => k_is)
    (case c_rcut => k_is)
    (case k_rcut => k_is)
    (case a_cutb => k_is)
    (case i_cutb => k_is)
    (case l_cutb => k_is)
    (case c_cutb => k_is)
    (case k_cutb => k_is)
    (case a_countat => k_is)
    (case i_countat => k_is)
    (case l_countat => k_is)
    (case c_countat => k_is)
    (case k_countat => k_is)
    (case a_kernel => k_is)
    (case i_kernel => k_is)
    (case l_kernel => k_is)
    (case c_kernel => k_is)
    (case k_kernel => k_is)
    (case a_onew => k_is)
    (case l_onew => k_is)
    (case c_onew => k_is)
    (case k_onew => k_is)
    (case a_and => k_is)
    (case i_and => k_is)
    (case l_and => k_is)
    (case c_and => k_is)
    (case k_and => k_is)
    (case a_or => k_is)
    (case i_or => k_is)
    (case l_or => k_is)
    (case c_or => k_is)
    (case k_or => k_is)
    (case a_sub => k_is)
    (case i_sub => k_is)
    (case l_sub => k_is)
    (case c_sub => k_is)
    (case k_sub => k_is)
    (case a_le => k_is)
    (case i_le => k_is)
    (case l_le => k_is)
    (case c_le => k_is)
    (case k_le => k_is)
    (case a_base => k_is)
    (case l_base => k_is)
    (case c_base => k_is)
    (case k_base => k_is)
    (case a_edn => k_is)
    (case l_edn => k_is)
    (case c_edn => k_is)
    (case k_edn => k_is)
    (case a_row => k_is)
    (case l_row => k_is)
    (case c_row => k_is)
    (case k_row => k_is)
    (case a_isk => k_is)
    (case l_isk => k_is)
    (case c_isk => k_is)
    (case k_isk => k_is)
    (case a_cr => k_is)
    (case l_cr => k_is)
    (case c_cr => k_is)
    (case k_cr => k_is)
    (case a_law => k_is)
    (case l_law => k_is)
    (case c_law => k_is)
    (case k_law => k_is)
    (case g_LETTERS => k_is)
    (case g_LONGEST_WORD => k_is)
    (case z_len => k_is)
    (case z_int => k_is)
    (case z_range => k_is)
    (case z_enumerate => k_is)
    (case z_isinstance => k_is)
    (case z_list => k_is)
    (case z_tuple => k_is)
    (case z_str => k_is)
    (case z_bool => k_is)
    (case z_all => k_is)
    (case z_max => k_is)
    (case z_zip => k_is)
