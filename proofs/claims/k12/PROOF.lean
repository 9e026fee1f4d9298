import PyProof.Rows.All
import Wide.All
import OpenK.AllK
import Wide.FinOn
import HandS.ForMost
import HandS.IsInst
import HandS.OwnEq
import PyProof.InstNe
import PyProof.Draws
import KE.GoesEnum
import KE.GoesMore
import KE.KOpsOwn
import HandS.Walk
import HandS.Conv
import HandS.Evl
import HandS.Zip
import HandS.Property
import PySem.Challenge.RW_leafmarks_k12_whole_places_through_editi
set_option Elab.async false
set_option linter.all false
set_option maxRecDepth 100000
set_option maxHeartbeats 16000000
namespace Lm
open PySem L2
section
variable {X : Cx} {CX : CXT} {k : Nat} {f C : Addr} {fd : FuncData} {ps : List Str} {sp : Sp} {E : XK} {pins : List (Addr × Obj)} {σ : St} {H : Hp} {s : Shared}
/-- the callee runs under another around of the same frames -/
theorem run_in {A : Around} {Q : VK} {us : List Value} {vs : List V} (F : FnOk X.prog X.w X.K X.mg X.base CX k f fd ps sp) (hr : Room k A) (e0 : Env0 X.prog X.w X.K X.mg X.base A X.stack s H) (hb : Binds X.K fd ps [])
    (hx : Passes CX X E) (I : Inv X pins σ H s) (r : Vals vs us) (h : sp vs H Q E) : wpAny (model X.prog X.w) A (call (.ref f) us) (EP X pins σ Q) X.xe s := by
  have hl : us.length = ps.length := by rw [← r.length]; exact F.len _ _ _ _ h
  have hb' : BindsTo s fd ⟨us, []⟩ (ps.zip us) := by
    have := hb s us I.kIn (by simpa using hl)
    simpa using this
  refine wpAny_call (codeAny_mono (F.run A X.stack s H ⟨us, []⟩ us vs Q E hr e0 hb' r h) fun r s' hq => ?_)
  cases r with
  | error e => exact hx pins σ H s e s' I hq
  | ok fl =>
    cases fl with
    | ret u => exact I.after hq
    | next => exact False.elim hq
    | brk => exact False.elim hq
    | cont => exact False.elim hq
/-- len(x), x an instance with its own __len__ -/
def rLenOwn (C : Addr) (sp : Sp) (E : XK) : List V → Hp → VK → Prop := fun xs H Q => ∃ a dx fs, xs = [.ref a] ∧ H a = some (.ins C dx fs) ∧
  sp [.ref a] H (fun z H' => ∃ n : Nat, z = .int n ∧ n < 2 ^ 62 ∧ Q (.int n) H') E
theorem call_lenOwn (F : FnOk X.prog X.w X.K X.mg X.base CX k f fd ps sp) (hs : PySem.W.findIn X.K (.ref C) "__len__" = some (some (.ref f))) (hf : PySem.W.isFn X.K (.ref f) = true) (hb : Binds X.K fd ps []) (hr : Room (k + 1) X.A) (hx : Passes CX X E) :
    CallR X (.builtin "len") (rLenOwn C sp E) := by
  intro pins s σ H xs us Q I r h
  obtain ⟨a, dx, fs, rfl, ha, q⟩ := h
  obtain ⟨u, rfl, ru⟩ := r.one
  cases (show u = Value.ref a from ru)
  obtain ⟨mA, J, _⟩ := ins_get I.hok ha
  obtain ⟨od, J, _⟩ := J.look
  obtain ⟨m, hF⟩ := I.fr
  refine PySem.W.len_K hF I.ok.mod.kin J hs hf (wpAny_mono (run_in (us := [.ref a]) (vs := [.ref a]) F hr.in1 I.env0.in1 hb hx I (.cons rfl .nil) q) (fun w s' z => ?_) fun _ _ x => x)
  obtain ⟨z', H', I', rz, n, ez, hn, qz⟩ := z
  subst ez
  obtain ⟨t, e⟩ := (show ∃ t, w = Value.int n t from rz)
  subst e
  refine ⟨⟨by omega, by omega⟩, .int n, H', I'.tok _, ⟨_, rfl⟩, qz⟩
/-- x in y, y an instance with its own __contains__ -/
def rInOwn (C : Addr) (sp : Sp) (E : XK) (neg : Bool) : R2 := fun x y H Q => ∃ a dx fs, y = .ref a ∧ H a = some (.ins C dx fs) ∧
  sp [y, x] H (fun z H' => ∃ b : Bool, z = .bl b ∧ Q (.bl (if neg then !b else b)) H') E
theorem op_inOwn (F : FnOk X.prog X.w X.K X.mg X.base CX k f fd ps sp) (hs : PySem.W.findIn X.K (.ref C) "__contains__" = some (some (.ref f))) (hf : PySem.W.isFn X.K (.ref f) = true) (hb : Binds X.K fd ps []) (hr : Room k X.A) (hx : Passes CX X E) :
    OpR X (compareOp .In) (rInOwn C sp E false) := by
  intro pins s σ H x y v u Q I rx ry h
  obtain ⟨a, dx, fs, rfl, ha, q⟩ := h
  cases (show u = Value.ref a from ry)
  obtain ⟨mA, J, _⟩ := ins_get I.hok ha
  obtain ⟨od, J, _⟩ := J.look
  obtain ⟨m, hF⟩ := I.fr
  refine PySem.W.in_K hF I.ok.mod.kin J hs hf (wpAny_mono (run_in (us := [.ref a, v]) (vs := [.ref a, x]) F hr I.env0 hb hx I (.cons rfl (.cons rx .nil)) q) (fun w s' z => ?_) fun _ _ x => x)
  obtain ⟨z', H', I', rz, b, ez, qz⟩ := z
  subst ez
  cases (show w = Value.bool b from rz)
  exact wpAny_truthy_bool ⟨.bl _, H', I', rfl, qz⟩
theorem op_notInOwn (F : FnOk X.prog X.w X.K X.mg X.base CX k f fd ps sp) (hs : PySem.W.findIn X.K (.ref C) "__contains__" = some (some (.ref f))) (hf : PySem.W.isFn X.K (.ref f) = true) (hb : Binds X.K fd ps []) (hr : Room k X.A) (hx : Passes CX X E) :
    OpR X (compareOp .NotIn) (rInOwn C sp E true) := by
  intro pins s σ H x y v u Q I rx ry h
  obtain ⟨a, dx, fs, rfl, ha, q⟩ := h
  cases (show u = Value.ref a from ry)
  obtain ⟨mA, J, _⟩ := ins_get I.hok ha
  obtain ⟨od, J, _⟩ := J.look
  obtain ⟨m, hF⟩ := I.fr
  refine PySem.W.notIn_K hF I.ok.mod.kin J hs hf (wpAny_mono (run_in (us := [.ref a, v]) (vs := [.ref a, x]) F hr I.env0 hb hx I (.cons rfl (.cons rx .nil)) q) (fun w s' z => ?_) fun _ _ x => x)
  obtain ⟨z', H', I', rz, b, ez, qz⟩ := z
  subst ez
  cases (show w = Value.bool b from rz)
  exact wpAny_truthy_bool ⟨.bl _, H', I', rfl, qz⟩
theorem cmpBack {P : Value → Shared → Prop} {z : V} {v : Value} {s' : Shared} (r : RelV z v) (h : P v s') : PySem.W.CmpBack P v s' := by
  cases z with
  | non => cases (show v = Value.none from r); exact h
  | bl b => cases (show v = Value.bool b from r); exact h
  | int i => obtain ⟨t, e⟩ := (show ∃ t, v = Value.int i t from r); cases e; exact h
  | str i => obtain ⟨t, e⟩ := (show ∃ t, v = Value.str i t from r); cases e; exact h
  | byt i => obtain ⟨t, e⟩ := (show ∃ t, v = Value.bytes i t from r); cases e; exact h
  | flt i => obtain ⟨t, e⟩ := (show ∃ t, v = Value.float i t from r); cases e; exact h
  | ref a => cases (show v = Value.ref a from r); exact h
  | ty n => cases (show v = Value.type n from r); exact h
/-- x op y, both instances of the class at C that has its own def for it -/
def rBinOwn (C : Addr) (sp : Sp) (E : XK) : R2 := fun x y H Q => ∃ a dx fs b dy gs, x = .ref a ∧ y = .ref b ∧ H a = some (.ins C dx fs) ∧ H b = some (.ins C dy gs) ∧ sp [x, y] H Q E
theorem op_binOwn {op : Operator} (F : FnOk X.prog X.w X.K X.mg X.base CX k f fd ps sp) (hc : PySem.W.selfFirst X.K C = true) (hs : PySem.W.findIn X.K (.ref C) (PySem.dunder op.info.2) = some (some (.ref f))) (hf : PySem.W.isFn X.K (.ref f) = true) (hb : Binds X.K fd ps []) (hr : Room k X.A) (hx : Passes CX X E) :
    OpR X (binaryOp op) (rBinOwn C sp E) := by
  intro pins s σ H x y v u Q I rx ry h
  obtain ⟨a, dx, fs, b, dy, gs, rfl, rfl, ha, hb', q⟩ := h
  cases (show v = Value.ref a from rx)
  cases (show u = Value.ref b from ry)
  obtain ⟨mA, J, _⟩ := ins_get I.hok ha
  obtain ⟨mB, J', _⟩ := ins_get I.hok hb'
  obtain ⟨od, J, _⟩ := J.look
  obtain ⟨od', J', _⟩ := J'.look
  obtain ⟨m, hF⟩ := I.fr
  refine PySem.W.binop_K hF I.ok.mod.kin J J'.type hc hs hf (wpAny_mono (run_in (us := [.ref a, .ref b]) (vs := [.ref a, .ref b]) F hr I.env0 hb hx I (.cons rfl (.cons rfl .nil)) q) (fun w s' z => ?_) fun _ _ x => x)
  obtain ⟨z', H', I', rz, qz⟩ := z
  exact cmpBack rz ⟨z', H', I', rz, qz⟩
theorem op_cmpOwn {op : CmpOp} (hop : ∀ a b, compareOp op a b = richCompare op a b) (F : FnOk X.prog X.w X.K X.mg X.base CX k f fd ps sp) (hs : PySem.W.findIn X.K (.ref C) (cmpInfo op).2.1 = some (some (.ref f))) (hf : PySem.W.isFn X.K (.ref f) = true) (hb : Binds X.K fd ps []) (hr : Room k X.A) (hx : Passes CX X E) :
    OpR X (compareOp op) (rBinOwn C sp E) := by
  intro pins s σ H x y v u Q I rx ry h
  obtain ⟨a, dx, fs, b, dy, gs, rfl, rfl, ha, hb', q⟩ := h
  cases (show v = Value.ref a from rx)
  cases (show u = Value.ref b from ry)
  obtain ⟨mA, J, _⟩ := ins_get I.hok ha
  obtain ⟨mB, J', _⟩ := ins_get I.hok hb'
  obtain ⟨od, J, _⟩ := J.look
  obtain ⟨od', J', _⟩ := J'.look
  obtain ⟨m, hF⟩ := I.fr
  rw [hop]
  refine PySem.W.cmp_K (op := op) (tb := .ref C) hr.units0 hF I.ok.mod.kin J J'.type (by simp [PySem.W.notFirst]) hs hf (wpAny_mono (run_in (us := [.ref a, .ref b]) (vs := [.ref a, .ref b]) F hr I.env0 hb hx I (.cons rfl (.cons rfl .nil)) q) (fun w s' z => ?_) fun _ _ x => x)
  obtain ⟨z', H', I', rz, qz⟩ := z
  exact cmpBack rz ⟨z', H', I', rz, qz⟩
end
end Lm

namespace Lm
open PySem PySem.W PySem.Calls PyProof.Rows
section
variable {prog : Program} {w : World} {A : Around} {E : Value → Shared → Prop} {s : Shared} {K : Frag} {x C L f : Addr} {h₀ : Heap} {m : Str → Option Value} {ox : Obj} {od : Option Obj} {b tb : Value}
/-- != of an instance whose class has an own == and no own != -/
theorem ne_own {Q : Value → Shared → Prop} (hu : A.units + 1 < cLine) (Fr' : Fr h₀ L s.heap m) (X₀ : K.In h₀) (I : InstAt s.heap x ox C od) (hb : Looks (model prog w) s.heap (typeOf b) tb) (hn : notFirst K C tb = true)
    (hne : findIn K (.ref C) "__ne__" = some (some (.builtin "object.__ne__"))) (hobj : subIn K (.ref C) (.type "object") = some true)
    (hs : findIn K (.ref C) "__eq__" = some (some (.ref f))) (hf : isFn K (.ref f) = true)
    (h : wpAny (model prog w) A.in1 (call (.ref f) [.ref x, b]) (fun v s' => ∃ k, v = .bool k ∧ Q (.bool (!k)) s') E s) : wpAny (model prog w) A (richCompare .NotEq (.ref x) b) Q E s := by
  have X := X₀.keeps Fr'.keep
  have fin : ∀ (Q' : Option Value → Shared → Prop), (∀ k s', Q (.bool (!k)) s' → Q' (some (.bool (!k))) s') →
      wpAny (model prog w) A (call (.builtin "object.__ne__") ([.ref x] ++ [b]) >>= fun v => pure (some v)) Q' E s := by
    intro Q' hQ
    refine wpAny_bind (wpAny_call (codeAny_call_builtin PySem.F.cmp_object.ne.plain PySem.F.cmpEntry_ne ?_))
    refine @check_slot (model prog w) _ _ _ "object.__ne__" "object" "__ne__" (.ref x) [b] [] _ PySem.F.cmpKind_ne PySem.F.cmpSplit_ne (I.type.andThen (looks_subIn X hobj)) (PySem.F.cmpArgs_ne _ _) ?_
    unfold Builtin.«object.__ne__»
    repeat (first
      | with_reducible refine wpAny_cRoomFor hu ?_
      | (refine wpAny_bind (m := callSpecialIfBound? (.ref x) (Str.ofString "__eq__") [b])
          (ifBound_K X I hs hf (wpAny_mono h (fun r s' hr => by
            obtain ⟨k, rfl, hq⟩ := hr
            repeat (first | exact ⟨_, rfl, wpAny_pure (hQ k s' hq)⟩ | exact wpAny_pure (hQ k s' hq) | exact hQ k s' hq | exact wpAny_truthy_bool (hQ k s' hq) | (refine wpAny_bind (m := truthy (.bool _)) (wpAny_truthy_bool ?_)) | wp_step)) fun _ _ e => e)))
      | wp_step)
  have one : wpAny (model prog w) A (tryCompare (.ref x) "__ne__" b) (fun r s' => ∃ v, r = some v ∧ Q v s') E s := by
    simp only [tryCompare]
    refine wpAny_bind ?_
    simp only [callSpecialIfBound?, bindSpecialIfBound?]
    refine wpAny_holding (wpAny_bind (wpAny_bind (wpAny_bind (I.type.here ((looks_findIn X hne).here ?_)))))
    refine wpAny_bind (wpAny_askSetting (wpAny_ite ?_))
    split
    · refine wpAny_bind ?_
      rw [PySem.F.cmp_object.ne.bind]
      refine wpAny_pure (wpAny_pure ?_)
      show wpAny _ _ (call _ _ >>= fun v => pure (some v)) _ _ _
      exact fin _ fun k s' q => wpAny_pure ⟨_, rfl, q⟩
    · refine wpAny_tryCatch (wpAny_bind ?_)
      rw [PySem.F.cmp_object.ne.bind]
      refine wpAny_pure (wpAny_pure ?_)
      show wpAny _ _ (call _ _ >>= fun v => pure (some v)) _ _ _
      exact fin _ fun k s' q => wpAny_pure ⟨_, rfl, q⟩
  unfold richCompare
  simp only [oneThing_ref]
  refine wpAny_holding (wpAny_bind (wpAny_cRoomFor (Nat.lt_of_succ_lt hu) ?_))
  refine wpAny_bind (I.type.here (wpAny_bind (hb.here ?_)))
  split
  · rename_i q
    have e : subIn K tb (.ref C) = some false := by
      rcases Bool.or_eq_true_iff.mp hn with e | e
      · rw [beq_iff_eq.mp e] at q; simp at q
      · exact beq_iff_eq.mp e
    refine wpAny_bind ((looks_subIn X e).here ?_)
    simp only [Bool.false_eq_true, if_false]
    refine wpAny_bind (wpAny_mono one (fun r s' z => ?_) fun _ _ e => e)
    obtain ⟨v, rfl, hq⟩ := z
    exact wpAny_pure hq
  · refine wpAny_bind (wpAny_pure ?_)
    simp only [Bool.false_eq_true, if_false]
    refine wpAny_bind (wpAny_mono one (fun r s' z => ?_) fun _ _ e => e)
    obtain ⟨v, rfl, hq⟩ := z
    exact wpAny_pure hq
end
end Lm

namespace Lm
open PySem PySem.W PySem.Calls PyProof.Rows Builtin
theorem meets_enum1 {v : Value} {o : Obj} {H : Heap → Prop} (B : Begins v o H) :
    Meets (Builtin.«enumerate.__new__» ⟨[.type "enumerate", v], []⟩) (fun _ R s => H s.heap ∧
      R (.ok (.ret (.ref (s.heap.push o).objs.size))) { s with heap := (s.heap.push o).push { cls := .type "enumerate", data := .fields #[.none, .bool false, .ref s.heap.objs.size, rawInt 0, .none, .none] } }) :=
  .of_wp fun prog w A R s ⟨h1, h⟩ => by
    obtain ⟨hp, g, d, tk, os⟩ := s
    have hsub := sub_enumerate
    have q1 : ∀ {A' : Around} {E : Value → Shared → Prop} {Q : Value → Shared → Prop}, Q (.ref hp.objs.size) ⟨hp.push o, g, d, tk, os⟩ → wpAny (model prog w) A' (pyIter v) Q E ⟨hp, g, d, tk, os⟩ :=
      fun q => B.iter prog w _ _ ⟨hp, g, d, tk, os⟩ _ h1 q
    wp_walk using q1
    refine wpAny_stack_any fun st => wpAny_pure ?_
    split
    · rename_i c _ _ _ _ _
      cases (c == Value.type "enumerate")
      · wp_walk using q1
        exact ⟨_, rfl, h⟩
      · wp_walk using q1
        exact ⟨_, rfl, h⟩
    · wp_walk using q1
      exact ⟨_, rfl, h⟩
section
variable {prog : Program} {w : World} {A : Around} {E : Value → Shared → Prop} {s : Shared}
theorem call_enum1 {v : Value} {o : Obj} {H : Heap → Prop} {Q : Value → Shared → Prop} (B : Begins v o H) (h1 : H s.heap)
    (h : ∀ h', IsEnum h' (s.heap.objs.size + 1) s.heap.objs.size 0 .none → h'.get? s.heap.objs.size = some o → h'.objs.size = s.heap.objs.size + 2 →
      (∀ b o, s.heap.get? b = some o → h'.get? b = some o) → Q (.ref (s.heap.objs.size + 1)) { s with heap := h' }) :
    wpAny (model prog w) A (call (.type "enumerate") [v]) Q E s := by
  refine callType_new F.called_enumerate (by decide) (F.typeCall_enumerate_1 _) (F.newCall_enumerate_1 _) (fun obj => F.args_object_init_2 obj _) F.entry_enumerate_new
    (meets_enum1 B) ⟨h1, ?_⟩
  have hz : (s.heap.push o).objs.size = s.heap.objs.size + 1 := Heap.size_push ..
  show _ ∧ _
  rw [hz]
  have he : IsEnum ((s.heap.push o).push { cls := .type "enumerate", data := .fields #[.none, .bool false, .ref s.heap.objs.size, rawInt 0, .none, .none] }) (s.heap.objs.size + 1) s.heap.objs.size 0 .none := by
    have := Heap.get?_push_size (s.heap.push o) (o := { cls := .type "enumerate", data := .fields #[.none, .bool false, .ref s.heap.objs.size, rawInt 0, .none, .none] }) rfl
    rw [hz] at this; exact this
  refine ⟨⟨_, he, rfl⟩, h _ he (Heap.get?_push_of_some _ (Heap.get?_push_size _ B.free)) (by rw [Heap.size_push, hz]) fun b o x => Heap.get?_push_of_some _ (Heap.get?_push_of_some _ x)⟩
end
end Lm
namespace Lm
open PySem L2 PyProof.Rows PySem.Spec
open PySem.F in
theorem pyNext_enumT_end {prog : Program} {w : World} {A : Around} {E : Value → Shared → Prop} {s : Shared} {e it l : Addr} {i : Nat} {items : Array Value} {old : Value} {Q : Option Value → Shared → Prop} (hh : A.handled = none)
    (he : IsEnum s.heap e it i old) (hit : s.heap.IsTupleIter it l i) (hl : s.heap.IsTuple l items) (hx : items[i]? = none)
    (hQ : ∀ h', Heap.ExtBut it s.heap h' → Q none { s with heap := h' }) : wpAny (model prog w) A (pyNext (.ref e)) Q E s := by
  have hT : s.TypeIs (.ref e) "enumerate" := ⟨_, he, rfl⟩
  unfold pyNext
  refine wpAny_bind (wpAny_attempt (wpAny_callSpecial?_slot (name := Str.ofString "__next__") hT F.slot_enumerate_next
    (wpAny_call_entry F.slot_enumerate_next hT F.entry_enumerate_next ?_ (F.args_enumerate_next_1 _))))
  show wpAny _ _ (field (.ref e) 2 >>= _) _ _ _
  refine wpAny_bind (wpAny_field he rfl (x := .ref it) rfl ?_)
  refine wpAny_bind (wpAny_nextOf_tuple_end (A := A.in1) hh hit hl hx fun h' x he' hx' => ?_)
  obtain ⟨o, ho, hc⟩ := hx'
  refine wpAny_bind (wpAny_isInstance (T := "StopIteration") (b := true) ⟨o, ho, hc⟩ isSubtype_stop ?_)
  exact wpAny_pure (hQ _ he')
/-- the tuple at a as it stands, each item in a new pair -/
def IteT (K : PySem.W.Frag) (a : Addr) : It :=
  ⟨fun i H => ∃ (xs : List V) (x : V), SqT K H a xs ∧ xs[i]? = some x, fun i H v H' => ∃ T x, v = .ref T ∧ H T = none ∧ H' = upd H T (.tup [.int (i : Nat), x]) ∧ ∀ xs, SqT K H a xs → xs[i]? = some x, fun i H => ∃ xs : List V, SqT K H a xs ∧ xs.length ≤ i⟩
theorem turn_enumT {P : Program} {w : World} {K : PySem.W.Frag} {elts : List Expr} {kk : Nat} {tpos : Pos} (a e it : Addr) (hai : a ≠ it) (hea : e ≠ a) :
    Turn P w K (.Tuple elts kk tpos) (IteT K a) [e, it] e (fun i h => (∃ old, IsEnum h e it ((i : Nat) : Int) old) ∧ h.IsTupleIter it a i ∧ e ≠ it) where
  mem := by simp
  obj := fun i h st b hb => by
    obtain ⟨⟨old, he⟩, ⟨o, ho, hc, hd⟩, _⟩ := st
    have e' : b = e ∨ b = it := by simpa using hb
    rcases e' with z | z
    · rw [z]; exact ⟨_, he, fun v q => nomatch q⟩
    · rw [z]; exact ⟨o, ho, fun v q => by rw [hd] at q; cases q⟩
  keep := fun i h h' st k => let ⟨⟨old, he⟩, hi, hne⟩ := st; ⟨⟨old, k e (by simp) _ he⟩, hi.at fun o q => k it (by simp) o q, hne⟩
  item := by
    intro X hP hw hK hc i pins s σ H E I hf st hg
    subst hP hw hK
    obtain ⟨⟨old, he⟩, hit, hne⟩ := st
    obtain ⟨xs, x, hq, hx⟩ := hg
    obtain ⟨its, rv, p, hz⟩ := I.tuple hq
    obtain ⟨u, hu, ru⟩ := rv.get hx
    have hel : e < s.heap.objs.size := Heap.lt_size he
    have hil : it < s.heap.objs.size := by obtain ⟨_, q, _⟩ := hit; exact Heap.lt_size q
    have hi : i < its.toArray.size := by
      have := (List.getElem?_eq_some_iff.mp hu).1
      simpa using this
    refine wpAny_pyNext_enum_itemD (Draws.tuple (A := X.A.in1) (I.ok.hd hc) it a hai its.toArray) he ⟨hit, p⟩ hi hne (by simp [hne, hea]) fun x' h' tk hx' ho hst' hT hsz hk => ?_
    have hit' := hst'.1
    have ex' : x' = u := by
      have : its[i]? = some x' := by simpa using hx'
      rw [hu] at this; exact (Option.some.inj this).symm
    subst ex'
    refine ⟨_, rfl, wpAny_letOwnedTupleGo_enum (s := { s with heap := h', toks := tk + 1 }) ho fun h'' he' sb => ?_⟩
    have hT2 : h''.get? s.heap.objs.size = some { cls := .type "tuple", data := .seq #[.int i tk, x'] } := (sb.2 _ (Nat.ne_of_gt hel)).trans hT
    have new : ObjOk X.prog X.w (upd H s.heap.objs.size (.tup [.int (i : Nat), x])) h'' s.heap.objs.size (.tup [.int (i : Nat), x]) :=
      ⟨by show 2 ≤ sizeLine; decide, [.int i tk, x'], .cons ⟨_, rfl⟩ (.cons ru .nil), ⟨_, hT2, rfl, _, rfl⟩⟩
    have I1 : Inv X pins σ (upd H s.heap.objs.size (.tup [.int (i : Nat), x])) { s with heap := h'', toks := tk + 1 } :=
      I.turnedNew (ch := [e, it]) (fun b ob hb q => (sb.2 b (fun z => hb (by simp [z]))).trans (hk b ob (fun z => hb (by simp [z])) (fun z => hb (by simp [z])) q)) hf (Nat.le_refl _) new
    refine ⟨.ref s.heap.objs.size, _, I1, rfl, ⟨_, x, rfl, I.hok.fresh (Nat.le_refl _), rfl, fun ys hy => by rw [I.tuple_inj hy hq]; exact hx⟩, ⟨⟨x', ?_⟩, hit'.at fun o q => (sb.2 it (Ne.symm hne)).trans q, hne⟩, fun b hb => ?_⟩
    · have e1 : ((i + 1 : Nat) : Int) = (i : Int) + 1 := by omega
      rw [e1]; exact he'
    · have hb' : b < s.heap.objs.size := by
        have e' : b = e ∨ b = it := by simpa using hb
        rcases e' with z | z
        · rw [z]; exact hel
        · rw [z]; exact hil
      rw [upd_ne (Nat.ne_of_lt hb')]
      exact (hf b hb).1
  done := by
    intro X hP hw hK hc i pins s σ H E I hf st hg
    subst hP hw hK
    obtain ⟨⟨old, he⟩, hit, hne⟩ := st
    obtain ⟨xs, hq, hx⟩ := hg
    obtain ⟨its, rv, p, hz⟩ := I.tuple hq
    obtain ⟨f0, f1, f2, f3, f4, f5⟩ := hf it (by simp)
    have hl := rv.length
    exact pyNext_enumT_end (I.ok.hd hc) he hit p (by simp; omega) fun h' eb => ⟨rfl, I.turned (t' := s.toks) (fun b o hb q => eb b o hb q) f0 f1 f3 f4 f5⟩
  self := fun A i s Q E st h => let ⟨⟨_, he⟩, _⟩ := st; wpAny_pyIter_enum he h
def iEnumA (K : PySem.W.Frag) (ta : TA) : TI := fun σ H R => ta σ H fun vs H1 => ∃ a xs, vs = [.ref a] ∧ ((SqL K H1 a xs ∧ R (Ite K a) H1) ∨ (SqT K H1 a xs ∧ R (IteT K a) H1))
theorem pi_enumA {X : Cx} {e : Expr} {ta : TA} {p pos tpos : Pos} {elts : List Expr} {kk : Nat} (hg : Gl X "enumerate") (hm : X.mg "enumerate" = none) (ha : PA X [e] ta) (hs : starEach [e] X.env = [(false, eval e X.env)] := by rfl) :
    PI X (.Tuple elts kk tpos) (.Call (.Name "enumerate" p) [e] [] pos) (iEnumA X.K ta) := by
  refine ⟨fun pins s σ H R I h => ?_⟩
  refine Call_ (ld_blt I hg hm boot_enumerate (PyProof.Rows.callWith_type1 (thn (ha.run pos pins s σ H _ I h) fun us s1 ⟨vs, H1, I1, r1, q1⟩ => ?_) hs rfl))
  obtain ⟨a, xs, ex, q1⟩ := q1
  subst ex
  cases r1 with
  | cons r rr =>
    cases rr
    cases r
    have fresh2 : ∀ b, b ∈ [s1.heap.objs.size + 1, s1.heap.objs.size] → FpOk X pins H1 b := fun b hb => by
      have e' : b = s1.heap.objs.size + 1 ∨ b = s1.heap.objs.size := by simpa using hb
      have hle : s1.heap.objs.size ≤ b := by
        rcases e' with z | z
        · rw [z]; exact Nat.le_add_right _ _
        · rw [z]; exact Nat.le_refl _
      exact I1.fpOk hle (I1.hok.fresh hle)
    rcases q1 with ⟨hq, q⟩ | ⟨hq, q⟩
    · obtain ⟨its, rv, p', hz⟩ := I1.list hq
      refine call_enumerate_list p'.isList fun h' he hit hsz hk => wpAny_pyIter_enum he ?_
      have I2 : Inv X pins σ H1 { s1 with heap := h' } := I1.kept (t' := s1.toks) hk
      exact ⟨s1.heap.objs.size + 1, [s1.heap.objs.size + 1, s1.heap.objs.size], _, _, H1, rfl, I2, turn_enum a (s1.heap.objs.size + 1) s1.heap.objs.size, ⟨⟨.none, he⟩, hit, Nat.succ_ne_self _⟩, fresh2, q⟩
    · obtain ⟨its, rv, p', hz⟩ := I1.tuple hq
      obtain ⟨o1, ho1, _⟩ := id p'
      have hlt := Heap.lt_size ho1
      refine call_enum1 (begins_tuple a its.toArray) (show s1.heap.IsTuple a its.toArray from p') fun h' he hit hsz hk => wpAny_pyIter_enum he ?_
      have I2 : Inv X pins σ H1 { s1 with heap := h' } := I1.kept (t' := s1.toks) hk
      exact ⟨s1.heap.objs.size + 1, [s1.heap.objs.size + 1, s1.heap.objs.size], _, _, H1, rfl, I2, turn_enumT a (s1.heap.objs.size + 1) s1.heap.objs.size (Nat.ne_of_lt hlt) (Nat.ne_of_gt (Nat.lt_succ_of_lt hlt)), ⟨⟨.none, he⟩, ⟨_, hit, rfl, rfl⟩, Nat.succ_ne_self _⟩, fresh2, q⟩
theorem walk_enumT {K : PySem.W.Frag} {a : Addr} {xs : List V} : Walk (IteT K a) xs.length (fun H => SqT K H a xs) (YPair (fun i => some (.int (i : Nat))) (fun i => xs[i]?)) :=
  ⟨fun i _ hi q => ⟨xs, xs[i], q, by simp [hi]⟩, fun _ q => ⟨xs, q, Nat.le_refl _⟩, fun i H v H' _ q ⟨T, x, e1, e2, e3, e4⟩ => ⟨T, _, x, e1, e2, e3, rfl, e4 xs q⟩⟩
end Lm

namespace Lm
open PySem L2
/-! ### defs, methods, classes as they stand behind the top, with their promises -/
structure DefOk (P : Program) (w : World) (K : PySem.W.Frag) (mg : Str → Option Value) (base : Heap) (k : Nat) (x : Str) (f : Addr) (fd : FuncData) (ps : List Str) (sp : Sp) : Prop where
  ok : FnOk P w K mg base CX0 k f fd ps sp
  kp : PySem.W.keepIn K (.ref f) = true
  bd : Binds K fd ps []
  mg : mg x = some (.ref f)
structure MetOk (P : Program) (w : World) (K : PySem.W.Frag) (mg : Str → Option Value) (base : Heap) (k : Nat) (C : Addr) (m : Str) (f : Addr) (fd : FuncData) (ps : List Str) (sp : Sp) : Prop where
  ok : FnOk P w K mg base CX0 k f fd ps sp
  bd : Binds K fd ps []
  mt : Meth K C m f
  cl : Cls K C
structure ClsOk (P : Program) (w : World) (K : PySem.W.Frag) (mg : Str → Option Value) (base : Heap) (k : Nat) (x : Str) (C f : Addr) (fd : FuncData) (ps : List Str) (sp : Sp) : Prop where
  ok : FnOk P w K mg base CX0 k f fd ps sp
  bd : Binds K fd ps []
  mkr : Mk K C f
  cl : Cls K C
  mg : mg x = some (.ref C)
section
variable {X : Cx} {k : Nat} {f C : Addr} {fd : FuncData} {ps : List Str} {sp : Sp} {x m : Str} {p pos apos : Pos} {e o : Expr} {es : List Expr} {ta : TE} {t : TA}
theorem pe_d (D : DefOk X.prog X.w X.K X.mg X.base k x f fd ps sp) (hr : Room k X.A) (ha : PA X (e :: es) t) (hg : Gl X x := by rfl) (hdb : (x == ("__debug__" : Str)) = false := by decide)
    (he : starEach (e :: es) X.env = (false, eval e X.env) :: starEach es X.env := by rfl) (hpl : (backTo pos (starEach es X.env)).any (·.1) = false := by rfl) :
    PE X (.Call (.Name x p) (e :: es) [] pos) (tCall sp [] E0 t) := pe_call D.ok hr hg D.mg D.kp D.bd .nil pass0 ha hdb he hpl
theorem pe_d0 (D : DefOk X.prog X.w X.K X.mg X.base k x f fd ps sp) (hr : Room k X.A) (hg : Gl X x := by rfl) (hdb : (x == ("__debug__" : Str)) = false := by decide) :
    PE X (.Call (.Name x p) [] [] pos) (tCall sp [] E0 tNil) := pe_call0 D.ok hr hg D.mg D.kp D.bd .nil pass0 hdb
theorem pe_mk (D : ClsOk X.prog X.w X.K X.mg X.base k x C f fd ps sp) (hr : Room (k + 1) X.A) (ha : PA X (e :: es) t) (hg : Gl X x := by rfl) (hdb : (x == ("__debug__" : Str)) = false := by decide)
    (he : starEach (e :: es) X.env = (false, eval e X.env) :: starEach es X.env := by rfl) (hpl : (backTo pos (starEach es X.env)).any (·.1) = false := by rfl) :
    PE X (.Call (.Name x p) (e :: es) [] pos) (tMake C sp [] E0 t) := pe_make D.mkr D.ok hr hg D.mg D.bd .nil pass0 ha hdb he hpl
theorem pe_m {pl : Sem Bool} (D : MetOk X.prog X.w X.K X.mg X.base k C m f fd ps sp) (hr : Room k X.A) (he : PE X o ta) (ha : PA X (e :: es) t)
    (hst : starEach (e :: es) X.env = (false, eval e X.env) :: starEach es X.env := by rfl) (hpl : (backTo pos (starEach es X.env)).any (·.1) = false := by rfl)
    (ht : eval (.Call (.Attribute o m apos) (e :: es) [] pos) X.env = (do
      let ov ← eval o X.env
      standAt apos.atName
      let (f, first) ← holding [ov] (getMethod ov m pl)
      callWith pos f first (backTo pos (starEach (e :: es) X.env)) (backToKw pos (keywordEach [] X.env))) := by rfl) :
    PE X (.Call (.Attribute o m apos) (e :: es) [] pos) (tMeth C m sp [] E0 ta t) := pe_meth (pl := pl) he D.cl D.mt D.ok hr D.bd .nil pass0 ha hst hpl ht
theorem pe_m0 {pl : Sem Bool} (D : MetOk X.prog X.w X.K X.mg X.base k C m f fd ps sp) (hr : Room k X.A) (he : PE X o ta)
    (ht : eval (.Call (.Attribute o m apos) [] [] pos) X.env = (do
      let ov ← eval o X.env
      standAt apos.atName
      let (f, first) ← holding [ov] (getMethod ov m pl)
      callWith pos f first (backTo pos (starEach [] X.env)) (backToKw pos (keywordEach [] X.env))) := by rfl) :
    PE X (.Call (.Attribute o m apos) [] [] pos) (tMeth C m sp [] E0 ta tNil) := pe_meth0 (pl := pl) he D.cl D.mt D.ok hr D.bd .nil pass0 ht
theorem MetOk.len (D : MetOk X.prog X.w X.K X.mg X.base k C "__len__" f fd ps sp) (hr : Room (k + 1) X.A) : CallR X (.builtin "len") (rLenOwn C sp E0) := call_lenOwn D.ok D.mt.at_ D.mt.fn D.bd hr pass0
theorem MetOk.isin (D : MetOk X.prog X.w X.K X.mg X.base k C "__contains__" f fd ps sp) (hr : Room k X.A) : OpR X (compareOp .In) (rInOwn C sp E0 false) := op_inOwn D.ok D.mt.at_ D.mt.fn D.bd hr pass0
theorem MetOk.notin (D : MetOk X.prog X.w X.K X.mg X.base k C "__contains__" f fd ps sp) (hr : Room k X.A) : OpR X (compareOp .NotIn) (rInOwn C sp E0 true) := op_notInOwn D.ok D.mt.at_ D.mt.fn D.bd hr pass0
theorem MetOk.bin {op : Operator} (D : MetOk X.prog X.w X.K X.mg X.base k C (PySem.dunder op.info.2) f fd ps sp) (hc : PySem.W.selfFirst X.K C = true) (hr : Room k X.A) : OpR X (binaryOp op) (rBinOwn C sp E0) := op_binOwn D.ok hc D.mt.at_ D.mt.fn D.bd hr pass0
theorem MetOk.le (D : MetOk X.prog X.w X.K X.mg X.base k C "__le__" f fd ps sp) (hr : Room k X.A) : OpR X (compareOp .LtE) (rBinOwn C sp E0) := op_cmpOwn (fun _ _ => rfl) D.ok D.mt.at_ D.mt.fn D.bd hr pass0
theorem MetOk.lt (D : MetOk X.prog X.w X.K X.mg X.base k C "__lt__" f fd ps sp) (hr : Room k X.A) : OpR X (compareOp .Lt) (rBinOwn C sp E0) := op_cmpOwn (fun _ _ => rfl) D.ok D.mt.at_ D.mt.fn D.bd hr pass0
theorem MetOk.eq (D : MetOk X.prog X.w X.K X.mg X.base k C "__eq__" f fd ps sp) (hr : Room k X.A) : OpR X (compareOp .Eq) (rBinOwn C sp E0) := op_cmpOwn (fun _ _ => rfl) D.ok D.mt.at_ D.mt.fn D.bd hr pass0
/-- x != y of two instances of a class with an own == alone -/
def rNeOwn (C : Addr) (sp : Sp) (E : XK) : R2 := fun x y H Q => ∃ a dx fs b dy gs, x = .ref a ∧ y = .ref b ∧ H a = some (.ins C dx fs) ∧ H b = some (.ins C dy gs) ∧ sp [x, y] H (fun z H' => ∃ k : Bool, z = .bl k ∧ Q (.bl (!k)) H') E
theorem MetOk.ne (D : MetOk X.prog X.w X.K X.mg X.base k C "__eq__" f fd ps sp) (hn : PySem.W.findIn X.K (.ref C) "__ne__" = some (some (.builtin "object.__ne__"))) (ho : PySem.W.subIn X.K (.ref C) (.type "object") = some true) (hr : Room (k + 1) X.A) :
    OpR X (compareOp .NotEq) (rNeOwn C sp E0) := by
  intro pins s σ H x y v u Q I rx ry h
  obtain ⟨a, dx, fs, b, dy, gs, rfl, rfl, ha, hb', q⟩ := h
  cases (show v = Value.ref a from rx)
  cases (show u = Value.ref b from ry)
  obtain ⟨mA, J, _⟩ := ins_get I.hok ha
  obtain ⟨mB, J', _⟩ := ins_get I.hok hb'
  obtain ⟨od, J, _⟩ := J.look
  obtain ⟨od', J', _⟩ := J'.look
  obtain ⟨m, hF⟩ := I.fr
  show wpAny _ _ (richCompare .NotEq _ _) _ _ _
  refine ne_own (tb := .ref C) (by have := hr.un; omega) hF I.ok.mod.kin J J'.type (by simp [PySem.W.notFirst]) hn ho D.mt.at_ D.mt.fn
    (wpAny_mono (run_in (us := [.ref a, .ref b]) (vs := [.ref a, .ref b]) D.ok hr.in1 I.env0.in1 D.bd pass0 I (.cons rfl (.cons rfl .nil)) q) (fun w s' z => ?_) fun _ _ x => x)
  obtain ⟨z', H', I', rz, b, ez, qz⟩ := z
  subst ez
  cases (show w = Value.bool b from rz)
  exact ⟨b, rfl, .bl _, H', I', rfl, qz⟩
end
/-! ### heaps -/
/-- all that was tracked is as it was, but perhaps what stands at st -/
def Kp (st : Addr) (H H' : Hp) : Prop := ∀ b o, b ≠ st → H b = some o → H' b = some o
theorem Kp.refl (st : Addr) (H : Hp) : Kp st H H := fun _ _ _ h => h
theorem Kp.trans {st : Addr} {H H1 H2 : Hp} (a : Kp st H H1) (b : Kp st H1 H2) : Kp st H H2 := fun c o n h => b c o n (a c o n h)
theorem Kp.of {st : Addr} {H H' : Hp} (s : Same H H') : Kp st H H' := fun b o _ h => s b o h
theorem Kp.upd (st : Addr) (H : Hp) (o : HO) : Kp st H (upd H st o) := fun b u n h => by rw [upd_ne n]; exact h
theorem Kp.free {st : Addr} {H H' : Hp} (e : Kp st H H') {l : Addr} (hl : l ≠ st) (h : H' l = none) : H l = none := by
  cases q : H l with
  | none => rfl
  | some o => rw [e l o hl q] at h; cases h
theorem Same.upd' {H : Hp} {p : Addr} {o : HO} (h : H p = none) : Same H (upd H p o) := fun a u e => by rw [upd_ne (ne_of_none e h)]; exact e
/-- an object that H does not know may change -/
theorem Same.mut {H H' : Hp} {p : Addr} {o : HO} (e : Same H H') (h : H p = none) : Same H (upd H' p o) := fun a u ha => by rw [upd_ne (ne_of_none ha h)]; exact e a u ha
theorem Kp.mut {st : Addr} {H H' : Hp} {p : Addr} {o : HO} (e : Kp st H H') (h : H p = none) : Kp st H (L2.upd H' p o) := fun a u hn ha => by rw [upd_ne (ne_of_none ha h)]; exact e a u hn ha
theorem Kp.seqL {st : Addr} {K : PySem.W.Frag} {H H' : Hp} {a : Addr} {xs : List V} (e : Kp st H H') (hn : a ≠ st) (h : SqL K H a xs) : SqL K H' a xs := by
  rcases h with (h | ⟨o, h⟩) | h
  · exact .inl (.inl (e _ _ hn h))
  · exact .inl (.inr ⟨o, e _ _ hn h⟩)
  · exact .inr h
theorem Kp.seqT {st : Addr} {K : PySem.W.Frag} {H H' : Hp} {a : Addr} {xs : List V} (e : Kp st H H') (hn : a ≠ st) (h : SqT K H a xs) : SqT K H' a xs := by
  rcases h with (h | ⟨o, h⟩) | h
  · exact .inl (.inl (e _ _ hn h))
  · exact .inl (.inr ⟨o, e _ _ hn h⟩)
  · exact .inr h
theorem Same.seqT {K : PySem.W.Frag} {H H' : Hp} {a : Addr} {xs : List V} (e : Same H H') (h : SqT K H a xs) : SqT K H' a xs := by
  rcases h with (h | ⟨o, h⟩) | h
  · exact .inl (.inl (e _ _ h))
  · exact .inl (.inr ⟨o, e _ _ h⟩)
  · exact .inr h
/-- the law's state: the cells, how many were taken, what is left, whether it is far -/
structure StAt (H : Hp) (st c : Addr) : Prop where
  ob : ∃ (n l : Int) (b : Bool), H st = some (.lst [.ref c, .int n, .int l, .bl b])
  ce : ∃ ns : List Int, H c = some (.lst (ns.map V.int)) ∧ ns.length ≤ 63
  ne : c ≠ st
theorem StAt.same {H H' : Hp} {st c : Addr} (S : StAt H st c) (e : Same H H') : StAt H' st c := by
  obtain ⟨⟨n, l, b, h⟩, ⟨ns, h2, h3⟩, ne⟩ := S
  exact ⟨⟨n, l, b, e _ _ h⟩, ⟨ns, e _ _ h2, h3⟩, ne⟩
/-- another object changes -/
theorem StAt.mut {H : Hp} {st c p : Addr} {o : HO} (S : StAt H st c) (h1 : p ≠ st) (h2 : p ≠ c) : StAt (upd H p o) st c := by
  obtain ⟨⟨n, l, b, h⟩, ⟨ns, h4, h3⟩, ne⟩ := S
  exact ⟨⟨n, l, b, by rw [upd_ne (Ne.symm h1)]; exact h⟩, ⟨ns, by rw [upd_ne (Ne.symm h2)]; exact h4, h3⟩, ne⟩
theorem StAt.of_new {H : Hp} {st c p : Addr} (S : StAt H st c) (h : H p = none) : p ≠ st ∧ p ≠ c := by
  obtain ⟨⟨n, l, b, h1⟩, ⟨ns, h4, h3⟩, ne⟩ := S
  exact ⟨(ne_of_none h1 h).symm, (ne_of_none h4 h).symm⟩
end Lm

namespace Lm
open PySem PySem.W PySem.Calls PyProof.Rows
section
variable {prog : Program} {w : World} {A : Around} {E : Value → Shared → Prop} {s : Shared} {K : Frag} {x C L f f' dx : Addr} {h₀ : Heap} {m : Str → Option Value} {od : Option Obj}
theorem add_declines {C : Addr} {dx : Addr} (n : Int) (t : Tok) (x : Addr) : GivesAt (fun s => s.heap.get? x = some (instObj C dx)) (Builtin.«int.__add__» ⟨[.int n t, .ref x], []⟩) (.val .notImplemented) := by
  intro prog w A R s hx h
  obtain ⟨hp, g, d, tk, os⟩ := s
  have hx : hp.get? x = some (instObj C dx) := hx
  unfold Builtin.«int.__add__» PySem.Builtin.Int.intBinary
  repeat (first
    | (refine wpAny_bind (m := asInt? (.ref x)) ?_; unfold asInt?; refine wpAny_bind (wpAny_load (s := ⟨hp, g, d, tk, os⟩) hx ?_); dsimp only [instObj])
    | wp_step)
  exact h
theorem ksp_addR {n : Int} {t : Tok} {Q : Value → Shared → Prop} (Fh : Fr h₀ L s.heap m) (X₀ : K.In h₀) (I : InstAt s.heap x (instObj C dx) C od) (hc : selfFirst K C = true)
    (hs : findIn K (.ref C) "__add__" = some (some (.ref f'))) (hr : findIn K (.ref C) "__radd__" = some (some (.ref f))) (hf : isFn K (.ref f) = true) (hsub : subIn K (.ref C) (.type "int") = some false)
    (h : wpAny (model prog w) A (call (.ref f) [.ref x, .int n t]) (PySem.W.CmpBack Q) E s) : wpAny (model prog w) A (binaryOp .Add (.int n t) (.ref x)) Q E s := by
  have X := X₀.keeps Fh.keep
  obtain ⟨cd, rest, hcd, hm⟩ := ksp_first hc
  have I' := I
  obtain ⟨hh, g, d, tt, os⟩ := s
  have L1 : Looks (model prog w) hh (typeOf (.ref x)) (.ref C) := I.type
  have L3 : Looks (model prog w) hh (fillsNumberSlot (.ref C) "add") true := fills_K X hcd hm hs
  have L5 : Looks (model prog w) hh (isSubtype (.ref C) (.type "int")) false := looks_subIn X hsub
  have L2 : Looks (model prog w) hh (typeOf (.int n t)) (.type "int") := Looks.of_pure rfl
  have L4 : Looks (model prog w) hh (fillsNumberSlot (.type "int") "add") true := Looks.of_pure F.fills_int_add
  have hne : (Value.type "int" == Value.ref C) = false := Bool.eq_false_iff.mpr fun q => by cases beq_iff_eq.mp q
  have two : ∀ {Q' : Option Value → Shared → Prop}, (∀ v s', Q v s' → Q' (some v) s') → wpAny (model prog w) A (tryMethod (.ref x) (dunderR "add") (.int n t)) Q' E ⟨hh, g, d, tt, os⟩ := fun hq => by
    refine wpAny_mono (ksp_try (Q := Q) X I' hr hf h) (fun r s' z => ?_) fun _ _ e => e
    obtain ⟨v, rfl, q⟩ := z
    exact hq _ _ q
  have one : ∀ {Q' : Option Value → Shared → Prop}, Q' none ⟨hh, g, d, tt, os⟩ → wpAny (model prog w) A (tryMethod (.int n t) (PySem.dunder "add") (.ref x)) Q' E ⟨hh, g, d, tt, os⟩ := fun hq =>
    wpAny_tryMethod_declines (typeIs_int _ n t) F.slot_int_add (call_givesAt F.slot_int_add (typeIs_int _ n t) F.entry_int_add (F.args_int_add_2 _ _) (add_declines (C := C) (dx := dx) n t x) I'.at_ ⟨rfl, hq⟩)
  simp only [binaryOp]
  refine wpAny_holding (wpAny_bind ?_)
  unfold binaryOp1
  refine wpAny_bind (L2.at (wpAny_bind (L1.at (wpAny_bind (L4.at ?_)))))
  simp only [hne, Bool.false_eq_true, if_false]
  refine wpAny_bind (L3.at ?_)
  simp only [Bool.and_self, if_true]
  refine wpAny_bind (L5.at ?_)
  simp only [Bool.false_eq_true, if_false, Bool.not_false, Bool.and_self, if_true]
  refine wpAny_bind (wpAny_pure ?_)
  simp only [Bool.false_eq_true, if_false]
  refine wpAny_bind (one ?_)
  dsimp only
  refine wpAny_bind (two fun v s' q => ?_)
  dsimp only
  exact wpAny_bind (wpAny_rule (wpAny_pure (wpAny_pure q)))
end
end Lm

namespace Lm
open PySem L2
section
variable {X : Cx} {CX : CXT} {k : Nat} {f f' C : Addr} {fd : FuncData} {ps : List Str} {sp : Sp} {E : XK}
/-- x op n, x an instance of the class at C, n an integer -/
def rBinInt (C : Addr) (sp : Sp) (E : XK) : R2 := fun x y H Q => ∃ a dx fs n, x = .ref a ∧ y = .int n ∧ H a = some (.ins C dx fs) ∧ sp [x, y] H Q E
/-- what the text says of the class's own op and of the integers' -/
structure BinInt (K : PySem.W.Frag) (C : Addr) (nm : String) : Prop where
  self : PySem.W.selfFirst K C = true
  r : ∃ rc, PySem.W.findIn K (.ref C) (PySem.dunderR nm) = some rc ∧ (rc = none ∨ ∃ g : Addr, rc = some (.ref g))
  i1 : ∃ fo, PySem.W.findIn K (.type "int") (PySem.dunder nm) = some fo
  i2 : ∃ ro, PySem.W.findIn K (.type "int") (PySem.dunderR nm) = some ro
  sub : PySem.W.subIn K (.type "int") (.ref C) = some false
theorem op_binInt {op : Operator} (F : FnOk X.prog X.w X.K X.mg X.base CX k f fd ps sp) (B : BinInt X.K C op.info.2) (hs : PySem.W.findIn X.K (.ref C) (PySem.dunder op.info.2) = some (some (.ref f))) (hf : PySem.W.isFn X.K (.ref f) = true) (hb : Binds X.K fd ps []) (hr : Room k X.A) (hx : Passes CX X E) :
    OpR X (binaryOp op) (rBinInt C sp E) := by
  intro pins s σ H x y v u Q I rx ry h
  obtain ⟨a, dx, fs, n, rfl, rfl, ha, q⟩ := h
  cases (show v = Value.ref a from rx)
  obtain ⟨t, e⟩ := (show ∃ t, u = Value.int n t from ry)
  subst e
  obtain ⟨mA, J, _⟩ := ins_get I.hok ha
  obtain ⟨od, J, _⟩ := J.look
  obtain ⟨m, hF⟩ := I.fr
  obtain ⟨rc, b1, b2⟩ := B.r
  obtain ⟨fo, b3⟩ := B.i1
  obtain ⟨ro, b4⟩ := B.i2
  refine PySem.W.ksp_binT (T := "int") hF I.ok.mod.kin J rfl B.self hs hf b1 b2 b3 b4 B.sub (wpAny_mono (run_in (us := [.ref a, .int n t]) (vs := [.ref a, .int n]) F hr I.env0 hb hx I (.cons rfl (.cons ⟨t, rfl⟩ .nil)) q) (fun w s' z => ?_) fun _ _ x => x)
  obtain ⟨z', H', I', rz, qz⟩ := z
  exact cmpBack rz ⟨z', H', I', rz, qz⟩
/-- n + x -/
def rAddR (C : Addr) (sp : Sp) (E : XK) : R2 := fun x y H Q => ∃ a dx fs n, x = .int n ∧ y = .ref a ∧ H a = some (.ins C dx fs) ∧ sp [y, x] H Q E
theorem op_addR (F : FnOk X.prog X.w X.K X.mg X.base CX k f fd ps sp) (hc : PySem.W.selfFirst X.K C = true) (hs' : PySem.W.findIn X.K (.ref C) "__add__" = some (some (.ref f'))) (hsub : PySem.W.subIn X.K (.ref C) (.type "int") = some false)
    (hs : PySem.W.findIn X.K (.ref C) "__radd__" = some (some (.ref f))) (hf : PySem.W.isFn X.K (.ref f) = true) (hb : Binds X.K fd ps []) (hr : Room k X.A) (hx : Passes CX X E) :
    OpR X (binaryOp .Add) (rAddR C sp E) := by
  intro pins s σ H x y v u Q I rx ry h
  obtain ⟨a, dx, fs, n, rfl, rfl, ha, q⟩ := h
  cases (show u = Value.ref a from ry)
  obtain ⟨t, e⟩ := (show ∃ t, v = Value.int n t from rx)
  subst e
  obtain ⟨mA, J, _⟩ := ins_get I.hok ha
  obtain ⟨od, J, _⟩ := J.look
  obtain ⟨m, hF⟩ := I.fr
  refine ksp_addR hF I.ok.mod.kin J hc hs' hs hf hsub (wpAny_mono (run_in (us := [.ref a, .int n t]) (vs := [.ref a, .int n]) F hr I.env0 hb hx I (.cons rfl (.cons ⟨t, rfl⟩ .nil)) q) (fun w s' z => ?_) fun _ _ x => x)
  obtain ⟨z', H', I', rz, qz⟩ := z
  exact cmpBack rz ⟨z', H', I', rz, qz⟩
theorem MetOk.bini {op : Operator} (D : MetOk X.prog X.w X.K X.mg X.base k C (PySem.dunder op.info.2) f fd ps sp) (B : BinInt X.K C op.info.2) (hr : Room k X.A) : OpR X (binaryOp op) (rBinInt C sp E0) := op_binInt D.ok B D.mt.at_ D.mt.fn D.bd hr pass0
theorem MetOk.addr (D : MetOk X.prog X.w X.K X.mg X.base k C "__radd__" f fd ps sp) (hc : PySem.W.selfFirst X.K C = true) (hs' : PySem.W.findIn X.K (.ref C) "__add__" = some (some (.ref f'))) (hsub : PySem.W.subIn X.K (.ref C) (.type "int") = some false) (hr : Room k X.A) :
    OpR X (binaryOp .Add) (rAddR C sp E0) := op_addR D.ok hc hs' hsub D.mt.at_ D.mt.fn D.bd hr pass0
theorem MetOk.gt (D : MetOk X.prog X.w X.K X.mg X.base k C "__gt__" f fd ps sp) (hr : Room k X.A) : OpR X (compareOp .Gt) (rBinOwn C sp E0) := op_cmpOwn (fun _ _ => rfl) D.ok D.mt.at_ D.mt.fn D.bd hr pass0
theorem MetOk.ge (D : MetOk X.prog X.w X.K X.mg X.base k C "__ge__" f fd ps sp) (hr : Room k X.A) : OpR X (compareOp .GtE) (rBinOwn C sp E0) := op_cmpOwn (fun _ _ => rfl) D.ok D.mt.at_ D.mt.fn D.bd hr pass0
/-- a property of a class, with its getter's promise -/
structure PrpOk (P : Program) (w : World) (K : PySem.W.Frag) (mg : Str → Option Value) (base : Heap) (k : Nat) (C p : Addr) (m : Str) (f : Addr) (fd : FuncData) (ps : List Str) (sp : Sp) : Prop where
  ok : FnOk P w K mg base CX0 k f fd ps sp
  bd : Binds K fd ps []
  pr : PropOf K C m p f
  cl : Cls K C
theorem pe_p {p : Addr} {m : Str} {e : Expr} {pos : Pos} {ta : TE} (D : PrpOk X.prog X.w X.K X.mg X.base k C p m f fd ps sp) (hr : Room (k + 1) X.A) (he : PE X e ta) (hab : attributeBase e m X.env (eval e X.env) = eval e X.env := by rfl) :
    PE X (.Attribute e m pos) (tProp C sp [] E0 ta) := pe_prop he D.cl D.pr D.ok hr D.bd .nil pass0 hab
end
end Lm

namespace Lm
open PySem L2 PyProof.Rows
section
variable {prog : Program} {w : World} {A : Around} {E : Value → Shared → Prop} {s : Shared}
theorem isList_push {h : Heap} {l : Addr} {items : Array Value} {o : Obj} (x : h.IsList l items) : (h.push o).IsList l items := by
  obtain ⟨ol, hol, r⟩ := x
  exact ⟨ol, Heap.get?_push_of_some _ hol, r⟩
theorem isList_ext {h h' : Heap} {it l : Addr} {items : Array Value} (x : h.IsList l items) (e : Heap.ExtBut it h h') (n : l ≠ it) : h'.IsList l items := by
  obtain ⟨ol, hol, r⟩ := x
  exact ⟨ol, e l ol n hol, r⟩
theorem draw_list {it t : Addr} {items : Array Value} (hne : t ≠ it) : ∀ (n i : Nat) (s : Shared) (Q : List Value → Shared → Prop), s.heap.IsListIter it t i → s.heap.IsList t items → i + n ≤ items.size →
    (∀ h', h'.IsListIter it t (i + n) → Heap.SameBut it s.heap h' → Q ((items.toList.drop i).take n) { s with heap := h' }) → wpAny (model prog w) A (draw (.ref it) n) Q E s
  | 0, i, s, Q, hit, _, _, hQ => by
    show wpAny _ _ (pure []) Q E s
    exact wpAny_pure (by simpa using hQ s.heap hit (Heap.SameBut.refl ..))
  | n + 1, i, s, Q, hit, ht, hle, hQ => by
    have hlt : i < items.size := by omega
    show wpAny _ _ (pyNext (.ref it) >>= _) Q E s
    refine wpAny_bind (wpAny_pyNext_list_item hit ht (x := items[i]) (by simp [hlt]) fun h₁ hit₁ hs₁ => ?_)
    refine wpAny_bind (wpAny_holding (draw_list hne n (i + 1) _ _ hit₁ (isList_ext ht hs₁.extBut hne) (by omega) fun h₂ hit₂ hs₂ => wpAny_pure ?_))
    have hd : items.toList.drop i = items[i] :: items.toList.drop (i + 1) := by simp [List.drop_eq_getElem_cons, hlt]
    have := hQ h₂ (by rw [show i + (n + 1) = i + 1 + n by omega]; exact hit₂) (hs₁.trans hs₂)
    rw [hd, List.take_succ_cons] at this
    exact this
theorem unpackItems_list {t : Addr} {items : Array Value} {Q : List Value → Shared → Prop} (hh : A.handled = none) (ht : s.heap.IsList t items)
    (hQ : ∀ h', Heap.ExtBut s.heap.objs.size s.heap h' → Q items.toList { s with heap := h' }) : wpAny (model prog w) A (unpackItems (.ref t) items.size none) Q E s := by
  have hlt : t ≠ s.heap.objs.size := by obtain ⟨o, ho, _⟩ := ht; exact Nat.ne_of_lt (Heap.lt_size ho)
  unfold unpackItems
  refine wpAny_bind ?_
  · unfold notIterableAtAll
    refine wpAny_bind (wpAny_specialOf ht.typeIs PySem.F.slot_list_iter.lookup ?_)
    refine wpAny_pure ?_
    simp only [Bool.false_eq_true, if_false]
    refine wpAny_bind (wpAny_holding (wpAny_pyIter_list ht ?_))
    refine wpAny_bind (wpAny_holding (draw_list hlt items.size 0 _ _ ⟨_, Heap.get?_push_size _ rfl, rfl, rfl⟩ (isList_push ht) (by omega) fun h₁ hit₁ hs₁ => ?_))
    have hall : List.take items.size (List.drop 0 items.toList) = items.toList := by
      rw [List.drop_zero]; exact List.take_of_length_le (by simp)
    rw [hall]
    rw [if_neg (by simp)]
    have ht₁ : h₁.IsList t items := isList_ext (isList_push ht) hs₁.extBut hlt
    refine wpAny_bind (wpAny_holding (wpAny_pyNext_list_end hh hit₁ ht₁ (by simp) fun h₂ he₂ => ?_))
    simp only [Option.isSome_none, Bool.false_eq_true, if_false]
    refine wpAny_pure (hQ h₂ fun b o hb e => he₂ b o hb (hs₁.extBut b o hb (Heap.get?_push_of_some _ e)))
theorem assign_Tuple_list {env : Env} {elts : List Expr} {x1} {pos : Pos} {t : Addr} {items : Array Value} {Q : Unit → Shared → Prop} (hh : A.handled = none) (ht : s.heap.IsList t items)
    (hn : (assignEach elts env).length = items.size) (hstar : (assignEach elts env).findIdx? (·.1) = none)
    (h : ∀ h', Heap.ExtBut s.heap.objs.size s.heap h' → wpAny (model prog w) A (assignInOrder ((assignEach elts env).map (·.2)) items.toList) Q E { s with heap := h' }) :
    wpAny (model prog w) A (assign (.Tuple elts x1 pos) env (.ref t)) Q E s := by
  rw [PyProof.Rows.assign_Tuple]
  refine wpAny_bind (wpAny_standAt ?_)
  unfold unpack
  rw [hn, hstar]
  exact wpAny_bind (wpAny_holding (unpackItems_list hh ht h))
end
/-- (a, b, ..) = a list of that length -/
def gTupL (K : PySem.W.Frag) (n : Nat) (t : TGs) : TG := fun v σ H Q => ∃ a xs, v = .ref a ∧ SqL K H a xs ∧ xs.length = n ∧ t xs σ H Q
theorem pg_tupL {X : Cx} {es : List Expr} {k : Nat} {pos : Pos} {t : TGs} {n : Nat} (hc : X.calm = true) (h : PGs X es t)
    (hn : (assignEach es X.env).length = n := by rfl) (hst : (assignEach es X.env).findIdx? (·.1) = none := by rfl) : PG X (.Tuple es k pos) (gTupL X.K n t) := by
  refine ⟨fun pins s σ H v u Q I r hw => ?_⟩
  obtain ⟨a, xs, e1, hq, hl, hw⟩ := hw
  subst e1
  cases r
  obtain ⟨its, rv, ⟨o, m, e, hcl, _, d⟩, hz⟩ := I.list hq
  refine assign_Tuple_list (I.ok.hd hc) ⟨o, e, hcl, m, d⟩ (by simp [hn, ← hl, rv.length]) hst fun h' hx => ?_
  have I1 : Inv X pins σ H { s with heap := h' } := I.kept (t' := s.toks) fun b o e => hx b o (Nat.ne_of_lt (Heap.lt_size e)) e
  exact h.run pins _ σ H xs _ Q I1 (by simpa using rv) hw
end Lm

namespace Lm
open PySem L2
/-! ### editions as truths over the numbers of the passages -/
def idx (N : Nat) (S : Nat → Bool) : List Nat := (List.range N).filter S
def cnt (S : Nat → Bool) (c : Nat) : Nat := (idx c S).length
def cutsL (N : Nat) (S : Nat → Bool) : List Nat := 0 :: (idx N S).map (· + 1)
def countsL (N : Nat) (S : Nat → Bool) : List Nat := (List.range (N + 1)).map (cnt S)
def ker (S : Nat → Bool) : Nat → Nat
  | 0 => 0
  | c + 1 => if S c = true then c + 1 else ker S c
def no : Str := ⟨#[]⟩
def pick (ws : List Str) (S : Nat → Bool) : List Str := (idx ws.length S).map fun i => ws.getD i no
theorem idx_mem {N : Nat} {S : Nat → Bool} {i : Nat} : i ∈ idx N S ↔ i < N ∧ S i = true := by unfold idx; rw [List.mem_filter, List.mem_range]
theorem idx_sorted (N : Nat) (S : Nat → Bool) : (idx N S).Pairwise (· < ·) := List.Pairwise.filter _ List.pairwise_lt_range
theorem idx_succ (c : Nat) (S : Nat → Bool) : idx (c + 1) S = idx c S ++ (if S c = true then [c] else []) := by
  unfold idx
  rw [List.range_succ, List.filter_append]
  by_cases h : S c = true <;> simp [h]
theorem idx_len (N : Nat) (S : Nat → Bool) : (idx N S).length ≤ N := by
  unfold idx
  exact Nat.le_trans (List.length_filter_le _ _) (by simp)
theorem cnt_zero (S : Nat → Bool) : cnt S 0 = 0 := rfl
theorem cnt_succ (S : Nat → Bool) (c : Nat) : cnt S (c + 1) = cnt S c + if S c = true then 1 else 0 := by
  unfold cnt
  rw [idx_succ, List.length_append]
  by_cases h : S c = true <;> simp [h]
theorem cnt_mono {S : Nat → Bool} {a b : Nat} (h : a ≤ b) : cnt S a ≤ cnt S b := by
  induction b with
  | zero => have : a = 0 := by omega
            subst this; exact Nat.le_refl _
  | succ b ih =>
    rcases Nat.lt_or_ge a (b + 1) with h1 | h1
    · have := ih (by omega)
      rw [cnt_succ]; omega
    · have : a = b + 1 := by omega
      subst this; exact Nat.le_refl _
theorem idx_pre (S : Nat → Bool) (c d : Nat) : ∃ t, idx (c + d) S = idx c S ++ t := by
  unfold idx
  exact ⟨_, by rw [List.range_add, List.filter_append]⟩
theorem cutsL_len (N : Nat) (S : Nat → Bool) : (cutsL N S).length = cnt S N + 1 := by unfold cutsL cnt; simp
theorem cutsL_succ (c : Nat) (S : Nat → Bool) : cutsL (c + 1) S = cutsL c S ++ (if S c = true then [c + 1] else []) := by
  unfold cutsL
  rw [idx_succ]
  by_cases h : S c = true <;> simp [h]
theorem cuts_last (S : Nat → Bool) : ∀ c, (cutsL c S)[cnt S c]? = some (ker S c)
  | 0 => rfl
  | c + 1 => by
    rw [cutsL_succ, cnt_succ]
    by_cases h : S c = true
    · have hl := cutsL_len c S
      rw [if_pos h, if_pos h, List.getElem?_append_right (by omega), hl, Nat.sub_self]
      show some (c + 1) = some (ker S (c + 1))
      unfold ker
      rw [if_pos h]
    · rw [if_neg h, if_neg h, List.append_nil, Nat.add_zero, cuts_last S c]
      show some (ker S c) = some (ker S (c + 1))
      rw [show ker S (c + 1) = ker S c from by rw [ker]; exact if_neg h]
theorem cuts_at {N c : Nat} (S : Nat → Bool) (h : c ≤ N) : (cutsL N S)[cnt S c]? = some (ker S c) := by
  obtain ⟨t, ht⟩ := idx_pre S c (N - c)
  have e : c + (N - c) = N := by omega
  rw [e] at ht
  have e2 : cutsL N S = cutsL c S ++ t.map (· + 1) := by
    unfold cutsL
    rw [ht]
    simp
  rw [e2, List.getElem?_append_left (by rw [cutsL_len]; omega)]
  exact cuts_last S c
theorem cuts_mem {N c : Nat} {S : Nat → Bool} : c + 1 ∈ cutsL N S ↔ c < N ∧ S c = true := by
  unfold cutsL
  simp only [List.mem_cons, List.mem_map]
  constructor
  · rintro (h | ⟨a, ha, e⟩)
    · omega
    · have : a = c := by omega
      subst this; exact idx_mem.mp ha
  · intro h
    exact .inr ⟨c, idx_mem.mpr h, rfl⟩
theorem counts_at' {N c : Nat} (S : Nat → Bool) (h : c ≤ N) : (countsL N S)[c]? = some (cnt S c) := by
  unfold countsL
  rw [List.getElem?_map, List.getElem?_range (by omega)]
  rfl
/-! ### kernels -/
theorem ker_le (S : Nat → Bool) : ∀ c, ker S c ≤ c
  | 0 => Nat.le_refl _
  | c + 1 => by
    unfold ker
    by_cases h : S c = true
    · rw [if_pos h]; exact Nat.le_refl _
    · rw [if_neg h]; exact Nat.le_succ_of_le (ker_le S c)
theorem ker_fix (S : Nat → Bool) : ∀ c, ker S c = c ↔ c = 0 ∨ ∃ d, c = d + 1 ∧ S d = true
  | 0 => by simp [ker]
  | c + 1 => by
    have hl := ker_le S c
    unfold ker
    by_cases h : S c = true
    · simp [h]
    · simp [h]
      omega
theorem ker_idem (S : Nat → Bool) : ∀ c, ker S (ker S c) = ker S c
  | 0 => rfl
  | c + 1 => by
    by_cases h : S c = true
    · have e : ker S (c + 1) = c + 1 := by rw [ker]; exact if_pos h
      rw [e, e]
    · have e : ker S (c + 1) = ker S c := by rw [ker]; exact if_neg h
      rw [e]; exact ker_idem S c
theorem ker_mono1 (S : Nat → Bool) (c : Nat) : ker S c ≤ ker S (c + 1) := by
  rw [ker]
  have := ker_le S c
  split <;> omega
theorem ker_mono (S : Nat → Bool) {a b : Nat} (h : a ≤ b) : ker S a ≤ ker S b := by
  induction b with
  | zero => have : a = 0 := by omega
            subst this; exact Nat.le_refl _
  | succ b ih =>
    rcases Nat.lt_or_ge a (b + 1) with h1 | h1
    · exact Nat.le_trans (ih (by omega)) (ker_mono1 S b)
    · have : a = b + 1 := by omega
      subst this; exact Nat.le_refl _
/-- the greatest cut not above at which the edition stands -/
theorem ker_ge {S : Nat → Bool} {d c : Nat} (h : d ≤ c) (hd : ker S d = d) : d ≤ ker S c := by
  have := ker_mono S h
  omega
theorem ker_or (S T : Nat → Bool) : ∀ c, ker (fun i => S i || T i) c = max (ker S c) (ker T c)
  | 0 => rfl
  | c + 1 => by
    have h1 := ker_le S c
    have h2 := ker_le T c
    have ih := ker_or S T c
    unfold ker
    by_cases a : S c = true <;> by_cases b : T c = true <;> simp [a, b, ih] <;> omega
theorem ker_congr {S T : Nat → Bool} : ∀ c, (∀ i < c, S i = T i) → ker S c = ker T c
  | 0, _ => rfl
  | c + 1, h => by
    unfold ker
    rw [h c (by omega), ker_congr c fun i hi => h i (by omega)]
theorem ker_all : ∀ c, ker (fun _ => true) c = c
  | 0 => rfl
  | c + 1 => by simp [ker]
theorem ker_none : ∀ c, ker (fun _ => false) c = 0
  | 0 => rfl
  | c + 1 => by
    rw [ker]
    simp [ker_none c]
theorem ker_sub {S T : Nat → Bool} {N : Nat} : (∀ i < N, S i = true → T i = true) ↔ ∀ c ≤ N, ker S c ≤ ker T c := by
  constructor
  · intro h c hc
    have h1 : ker T (ker S c) = ker S c := by
      rw [ker_fix]
      rcases (ker_fix S (ker S c)).mp (ker_idem S c) with e | ⟨d, e, hd⟩
      · exact .inl e
      · have := ker_le S c
        exact .inr ⟨d, e, h d (by omega) hd⟩
    exact ker_ge (ker_le S c) h1
  · intro h i hi hS
    have h1 := h (i + 1) (by omega)
    have h2 : ker S (i + 1) = i + 1 := by rw [ker]; exact if_pos hS
    have h3 := ker_le T (i + 1)
    have h4 : ker T (i + 1) = i + 1 := by omega
    rcases (ker_fix T (i + 1)).mp h4 with e | ⟨d, e, hd⟩
    · omega
    · have : d = i := by omega
      subst this; exact hd
/-- so many passages end at a cut at most just if the cut is at least behind them -/
theorem cuts_le_iff {N c n : Nat} {S : Nat → Bool} {x : Nat} (hc : c ≤ N) (h : (cutsL N S)[n]? = some x) : x ≤ c ↔ n ≤ cnt S c := by
  have srt : (cutsL N S).Pairwise (· < ·) := by
    unfold cutsL
    refine List.pairwise_cons.mpr ⟨fun a ha => ?_, ?_⟩
    · obtain ⟨b, _, e⟩ := List.mem_map.mp ha
      omega
    · refine List.Pairwise.map _ (fun a b hab => ?_) (idx_sorted N S)
      omega
  have hk := cuts_at S hc
  obtain ⟨l1, e1⟩ := List.getElem?_eq_some_iff.mp h
  obtain ⟨l2, e2⟩ := List.getElem?_eq_some_iff.mp hk
  have hkl := ker_le S c
  constructor
  · intro hx
    rcases Nat.lt_or_ge (cnt S c) n with hn | hn
    · exfalso
      have h1 := List.pairwise_iff_getElem.mp srt (cnt S c) n l2 l1 hn
      rw [e1, e2] at h1
      -- x stands in S and is at most c, so it is at most the kernel
      cases n with
      | zero => omega
      | succ n =>
        have h2 : x ∈ (idx N S).map (· + 1) := by
          unfold cutsL at h
          have : ((idx N S).map (· + 1))[n]? = some x := h
          exact List.mem_of_getElem? this
        obtain ⟨d, hd, e⟩ := List.mem_map.mp h2
        have e : d + 1 = x := e
        have h3 : ker S x = x := (ker_fix S x).mpr (.inr ⟨d, e.symm, (idx_mem.mp hd).2⟩)
        have := ker_ge hx h3
        omega
    · exact hn
  · intro hn
    rcases Nat.lt_or_ge n (cnt S c) with h1 | h1
    · have h2 := List.pairwise_iff_getElem.mp srt n (cnt S c) l1 l2 h1
      rw [e1, e2] at h2
      omega
    · have : n = cnt S c := by omega
      subst this
      rw [hk] at h
      have := Option.some.inj h
      omega
theorem cnt_cuts {N n : Nat} {S : Nat → Bool} {x : Nat} (h : (cutsL N S)[n]? = some x) : x ≤ N ∧ cnt S x = n := by
  have hn : n ≤ cnt S N := by
    have := (List.getElem?_eq_some_iff.mp h).1
    rw [cutsL_len] at this
    omega
  have hx : x ≤ N := (cuts_le_iff (Nat.le_refl N) h).mpr hn
  refine ⟨hx, ?_⟩
  have h1 := (cuts_le_iff hx h).mp (Nat.le_refl _)
  rcases Nat.lt_or_ge n (cnt S x) with h2 | h2
  · exfalso
    have hk := cuts_at S hx
    have h3 := (cuts_le_iff (c := x) hx (n := n + 1) (x := (cutsL N S).getD (n + 1) 0) ?_).mpr h2
    · have srt : (cutsL N S).Pairwise (· < ·) := by
        unfold cutsL
        refine List.pairwise_cons.mpr ⟨fun a ha => ?_, ?_⟩
        · obtain ⟨b, _, e⟩ := List.mem_map.mp ha
          omega
        · refine List.Pairwise.map _ (fun a b hab => ?_) (idx_sorted N S)
          omega
      have l2 : n + 1 < (cutsL N S).length := by
        have := (List.getElem?_eq_some_iff.mp hk).1
        omega
      obtain ⟨l1, e1⟩ := List.getElem?_eq_some_iff.mp h
      have h4 := List.pairwise_iff_getElem.mp srt n (n + 1) l1 l2 (by omega)
      rw [List.getD_eq_getElem?_getD, List.getElem?_eq_getElem l2] at h3
      simp at h3
      omega
    · have l2 : n + 1 < (cutsL N S).length := by
        have := (List.getElem?_eq_some_iff.mp hk).1
        omega
      rw [List.getD_eq_getElem?_getD, List.getElem?_eq_getElem l2]
      rfl
  · omega
end Lm

namespace Lm
open PySem L2
def top (i : Nat) : Stmt := PySem.Challenge.pw_leafmarks_k12_whole_places_through_editi.main.body.getD i (.Pass ⟨0, 0, 0, 0⟩)
end Lm

namespace Lm
open PySem L2
/-- what the walk asks of the built-in names -/
structure Blt (mg : Str → Option Value) : Prop where
  b_len : mg "len" = none
  b_int : mg "int" = none
  b_range : mg "range" = none
  b_enumerate : mg "enumerate" = none
  b_isinstance : mg "isinstance" = none
  b_list : mg "list" = none
  b_tuple : mg "tuple" = none
  b_str : mg "str" = none
  b_bool : mg "bool" = none
  b_all : mg "all" = none
  b_max : mg "max" = none
  b_zip : mg "zip" = none
section
variable {P : Program} {w : World} {K : PySem.W.Frag} {mg : Str → Option Value} {base : Heap} {f : Addr} {fd : FuncData}
def spFresh (K : PySem.W.Frag) : Sp := fun vs H Q _ => ∃ (a : Addr) (ns : List Int), vs = [.ref a] ∧ SqL K H a (ns.map V.int) ∧ ns.length ≤ 63 ∧ ∀ p c H', H p = none → H c = none → Same H H' → StAt H' p c → Q (.ref p) H'
abbrev s_fresh : Stmt := top 28
theorem sc_fresh : FnScope ["_law_script"] ["_law_script"] (defScope s_fresh) := ⟨rfl, rfl, rfl, by decide +kernel, rfl, by decide +kernel, by decide +kernel⟩
theorem ok_fresh (F : Fun K "_law_fresh" "_law_fresh" s_fresh f fd) (T : Blt mg) : FnOk P w K mg base CX0 1 f fd ["_law_script"] (spFresh K) := by
  refine F.ok sc_fresh (fun vs H Q E h => ?_) (fun cdv A outer s H vs Q E hr h => ?_)
  · obtain ⟨a, ns, rfl, _⟩ := h
    rfl
  · obtain ⟨a, ns, rfl, hS, hl, k⟩ := h
    refine ⟨_, (pss_one (ps_ret (pe_lst (pa_cons (pe_slice sl_list (pv 0) po_none (po_some pe_int)) (pa_cons pe_int (pa_cons pe_int (pa_cons pe_bl pa_nil))))))), ?_⟩
    have hc : cutV (ns.map V.int) none (some 63) = (ns.map V.int) := by
      have e : (ns.map V.int).length = ns.length := List.length_map ..
      unfold cutV
      rw [HT.sIx_none, show (some (63 : Int)) = some ((63 : Nat) : Int) from rfl, HT.sIx_nat, List.drop_zero, e, Nat.min_eq_right hl, Nat.sub_zero, ← e, List.take_length]
    refine ⟨_, rfl, ⟨63, rfl, a, _, rfl, hS, fun c nc => ⟨by show 4 ≤ sizeLine; decide, fun p np => ?_⟩⟩⟩
    have hpc : p ≠ c := (ne_of_none upd_same np).symm
    have np' : H p = none := by rw [← upd_ne (H := H) (o := .lst (cutV (ns.map V.int) none (some 63))) hpc]; exact np
    refine k p c _ np' nc ((Same.upd' nc).trans (Same.upd' np)) ⟨⟨0, 0, false, upd_same⟩, ⟨ns, ?_, hl⟩, hpc.symm⟩
    rw [upd_ne hpc.symm, upd_same, hc]
end
end Lm

namespace Lm
open PySem L2
theorem mem_at {xs : List V} {i : Nat} {x : V} (h : xs[i]? = some x) : x ∈ xs := List.mem_of_getElem? h
theorem fmod_bd (a : Int) {p : Int} (h : 0 < p) : 0 ≤ Int.fmod a p ∧ Int.fmod a p < p := ⟨Int.fmod_nonneg_of_pos a h, Int.fmod_lt_of_pos a h⟩
/-- exactly evaluated: a value, the heap as it was -/
def Vx (te : TE) (σ : St) (H : Hp) (v : V) : Prop := ∀ Q : VK, Q v H → te σ H Q
theorem vx_or {ta tb : TE} {σ : St} {H : Hp} {a b : Bool} (h1 : Vx ta σ H (.bl a)) (h2 : Vx tb σ H (.bl b)) : Vx (tOrV ta tb) σ H (.bl (a || b)) := by
  intro Q q
  refine h1 _ ⟨a, rfl, ?_⟩
  cases a
  · exact iteF (h2 _ q)
  · exact iteT q
theorem vx_and {ta tb : TE} {σ : St} {H : Hp} {a b : Bool} (h1 : Vx ta σ H (.bl a)) (h2 : Vx tb σ H (.bl b)) : Vx (tAndV ta tb) σ H (.bl (a && b)) := by
  intro Q q
  refine h1 _ ⟨a, rfl, ?_⟩
  cases a
  · exact iteF q
  · exact iteT (h2 _ q)
theorem sq_asgB {te : TE} {g : TG} {tz : TS} {D : Ends} {σ : St} {H : Hp} (h : ∀ Q : VK, (∀ b : Bool, Q (.bl b) H) → te σ H Q) (k : ∀ b : Bool, g (.bl b) σ H (tz D)) : tSeq (tAsg te g) tz D σ H := h _ k
section
variable {P : Program} {w : World} {K : PySem.W.Frag} {mg : Str → Option Value} {base : Heap} {f : Addr} {fd : FuncData}
def spFill : Sp := fun vs H Q _ => ∃ (st c : Addr), vs = [.ref st] ∧ StAt H st c ∧ ∀ H', StAt H' st c → Kp st H H' → Q .non H'
abbrev s_fill : Stmt := top 29
theorem sc_fill : FnScope ["_law_state", "_law_cells", "_law_nth", "_law_seed", "_law_k", "_law_prime", "_law_far"] ["_law_state"] (defScope s_fill) := ⟨rfl, rfl, rfl, by decide +kernel, rfl, by decide +kernel, by decide +kernel⟩
theorem ok_fill (F : Fun K "_law_fill" "_law_fill" s_fill f fd) (T : Blt mg) : FnOk P w K mg base CX0 1 f fd ["_law_state"] spFill := by
  refine F.ok sc_fill (fun vs H Q E h => ?_) (fun cdv A outer s H vs Q E hr h => ?_)
  · obtain ⟨st, c, rfl, _⟩ := h
    rfl
  · obtain ⟨st, c, rfl, S, k⟩ := h
    obtain ⟨⟨n, l, b, h1⟩, ⟨ns, h2, hl⟩, ne⟩ := id S
    refine ⟨_, (pss_cons (ps_par (i := 1) (j := 2) (by rfl) sc_fill.nd rfl rfl (by decide) rfl rfl (pa_cons (pe_ix ix_list (pv 0) pe_int (fun _ _ => rfl)) (pa_cons (pe_ix ix_list (pv 0) pe_int (fun _ _ => rfl)) pa_nil)) (by rfl))
        (pss_cons (ps_set (i := 3) sc_fill.nd rfl (by first | exact Or.inl rfl | exact Or.inr rfl) (pe_op op_add (pe_op op_mul pe_int (pv 2)) pe_int))
        (Evl.pss_cut (ps_if (pt_cmpR op_gt (pe_callB call_len_seq (by rfl) T.b_len PySem.boot_len (pa_cons (pv 1) pa_nil)) pe_int (nomark _)) (pss_one (ps_set (i := 3) sc_fill.nd rfl (by first | exact Or.inl rfl | exact Or.inr rfl) (pe_op op_add (pe_op op_mul pe_int (pe_op op_fdivN (pv 2) (pe_callB call_len_seq (by rfl) T.b_len PySem.boot_len (pa_cons (pv 1) pa_nil)))) (pe_ix ix_list (pv 1) (pe_op op_modN (pe_callTy call_int1 (by rfl) T.b_int (by decide +kernel) (pa_cons (pv 2) pa_nil)) (pe_callB call_len_seq (by rfl) T.b_len PySem.boot_len (pa_cons (pv 1) pa_nil))) (fun _ _ => rfl))))) pss_nil)
        (pss_cons (ps_asg (pe_op op_add (pv 2) pe_int) (pg_sub (pv 0) pe_int set_list))
        (pss_cons (ps_asg (pe_or (pe_cmpR op_ge (pv 2) (pe_callB call_len_seq (by rfl) T.b_len PySem.boot_len (pa_cons (pv 1) pa_nil)) (nomark _)) (pe_one (pe_cmpR op_lt (pv 3) (pe_op op_pow pe_int pe_int) (nomark _)))) (pg_sub (pv 0) pe_int set_list))
        (pss_cons (ps_asg (pe_op op_sub (pv 3) (pe_op op_pow pe_int pe_int)) (pg_sub (pv 0) pe_int set_list))
        (pss_one (ps_if (pt_val (pe_ix ix_list (pv 0) pe_int (fun _ _ => rfl))) (pss_cons (ps_asg pe_int (pg_sub (pv 0) pe_int set_list))
        (pss_one (ps_for PassesOwn.never rfl (pi_enumA rfl T.b_enumerate (pa_cons (pe_tup (pa_cons pe_int (pa_cons pe_int (pa_cons pe_int (pa_cons pe_int (pa_cons pe_int pa_nil)))))) pa_nil)) (pg_tup rfl (pgs_cons (pg_name (i := 4) sc_fill.nd rfl (by first | exact Or.inl rfl | exact Or.inr rfl)) (pgs_cons (pg_name (i := 5) sc_fill.nd rfl (by first | exact Or.inl rfl | exact Or.inr rfl)) pgs_nil))) (pss_cons (ps_set (i := 6) sc_fill.nd rfl (by first | exact Or.inl rfl | exact Or.inr rfl) (pe_op op_modN (pe_callTy call_int1 (by rfl) T.b_int (by decide +kernel) (pa_cons (pe_op op_mul (pe_op op_add (pe_op op_add (pv 3) (pe_op op_mul (pe_op op_mul pe_int (pv 4)) (pv 4))) (pe_op op_mul pe_int (pv 4))) (pe_op op_add pe_int (pe_op op_mul pe_int (pv 4)))) pa_nil)) (pv 5)))
        (pss_one (ps_asg (pe_op op_add (pe_op op_mul (pe_ix ix_list (pv 0) pe_int (fun _ _ => rfl)) (pv 5)) (pe_op op_modN (pe_callTy call_int1 (by rfl) T.b_int (by decide +kernel) (pa_cons (pe_op op_pow (pv 6) pe_int) pa_nil)) (pv 5))) (pg_sub (pv 0) pe_int set_list))))))) pss_nil)))))))), ?_⟩
    refine ⟨_, rfl, _, _, _, _, rfl, rfl, SqL.of h1, rfl, _, rfl, _, _, _, _, rfl, rfl, SqL.of h1, rfl, _, _, rfl, ?_⟩
    refine ⟨_, rfl, _, _, rfl, rfl, .inl ⟨by decide, by decide⟩, _, _, rfl, rfl, ?_⟩
    refine ⟨fun σ' H' => H = H' ∧ ∃ seed : Int, σ' = [some (.ref st), some (.ref c), some (.int n), some (.int seed), none, none, none], ?_, ?_⟩
    · refine ⟨_, rfl, _, _, rfl, .inl (SqL.of h2), _, _, rfl, rfl, _, rfl, ite2 (fun hp => ?_) (fun _ => ⟨rfl, _, rfl⟩)⟩
      have e : (ns.map V.int).length = ns.length := List.length_map ..
      have hp : 0 < ns.length := by
        have hp := of_decide_eq_true hp
        rw [e] at hp; omega
      refine ⟨_, rfl, _, rfl, _, _, rfl, .inl (SqL.of h2), _, _, rfl, rfl, ⟨by rw [e]; omega, by rw [e]; omega⟩, _, _, rfl, rfl, .inl ⟨by decide, by decide⟩, ?_⟩
      obtain ⟨m1, m2⟩ := fmod_bd n (p := ((ns.map V.int).length : Int)) (by rw [e]; omega)
      have hj : (Int.fmod n ((ns.map V.int).length : Int)).toNat < ns.length := by rw [e] at m1 m2 ⊢; omega
      refine ⟨_, rfl, _, rfl, .inl ⟨_, rfl, _, rfl, _, _, rfl, .inl (SqL.of h2), _, _, rfl, rfl, by rw [e]; omega, _, _, _, _, rfl, rfl, SqL.of h2, at_of (j := (Int.fmod n ((ns.map V.int).length : Int)).toNat) (Int.toNat_of_nonneg m1).symm (by rw [List.getElem?_map, List.getElem?_eq_getElem hj]; rfl), _, _, rfl, rfl, ⟨rfl, _, rfl⟩⟩⟩
    · rintro σ' H' ⟨rfl, seed, rfl⟩
      refine ⟨_, rfl, _, _, rfl, rfl, _, rfl, _, _, _, _, rfl, rfl, h1, rfl, ?_⟩
      generalize hH1 : upd H st _ = H1
      have g1 : H1 st = some (.lst [.ref c, .int (n + 1), .int l, .bl b]) := by rw [← hH1]; exact upd_same
      have g2 : H1 c = some (.lst (ns.map V.int)) := by rw [← hH1, upd_ne ne]; exact h2
      have kp1 : Kp st H H1 := by rw [← hH1]; exact Kp.upd _ _ _
      clear hH1
      -- far or not
      dsimp only
      refine sq_asgB (fun Q q => ?_) fun b' => ?_
      · refine ⟨_, rfl, _, rfl, _, _, rfl, .inl (SqL.of g2), _, _, rfl, rfl, _, rfl, ite2 (fun _ => q true) (fun _ => ?_)⟩
        exact ⟨_, rfl, _, _, rfl, rfl, ⟨by decide, by decide, by decide⟩, _, _, rfl, rfl, q _⟩
      refine ⟨_, rfl, _, _, _, _, rfl, rfl, g1, rfl, ?_⟩
      generalize hH2 : upd H1 st _ = H2
      have g3 : H2 st = some (.lst [.ref c, .int (n + 1), .int l, .bl b']) := by rw [← hH2]; exact upd_same
      have g4 : H2 c = some (.lst (ns.map V.int)) := by rw [← hH2, upd_ne ne]; exact g2
      have kp2 : Kp st H H2 := by rw [← hH2]; exact kp1.trans (Kp.upd _ _ _)
      clear hH2
      refine ⟨_, rfl, _, _, rfl, rfl, ⟨by decide, by decide, by decide⟩, _, _, rfl, rfl, _, rfl, _, _, _, _, rfl, rfl, g3, rfl, ?_⟩
      generalize hH3 : upd H2 st _ = H3
      obtain ⟨l3, g5⟩ : ∃ l3, H3 st = some (.lst [.ref c, .int (n + 1), .int l3, .bl b']) := ⟨_, by rw [← hH3]; exact upd_same⟩
      have g6 : H3 c = some (.lst (ns.map V.int)) := by rw [← hH3, upd_ne ne]; exact g4
      have kp3 : Kp st H H3 := by rw [← hH3]; exact kp2.trans (Kp.upd _ _ _)
      clear hH3
      refine ⟨_, rfl, _, _, _, _, rfl, rfl, SqL.of g5, rfl, _, rfl, ite2 (fun _ => ?_) (fun _ => k _ ⟨⟨_, _, _, g5⟩, ⟨ns, g6, hl⟩, ne⟩ kp3)⟩
      refine ⟨_, rfl, _, _, _, _, rfl, rfl, g5, rfl, ?_⟩
      generalize hH4 : upd H3 st _ = H4
      have g7 : H4 st = some (.lst [.ref c, .int (n + 1), .int 0, .bl b']) := by rw [← hH4]; exact upd_same
      have g8 : H4 c = some (.lst (ns.map V.int)) := by rw [← hH4, upd_ne ne]; exact g6
      have kp4 : Kp st H H4 := by rw [← hH4]; exact kp3.trans (Kp.upd _ _ _)
      clear hH4
      refine ⟨by show 5 ≤ sizeLine; decide, fun t nt => ?_⟩
      have hts : t ≠ st := (ne_of_none g7 nt).symm
      have htc : t ≠ c := (ne_of_none g8 nt).symm
      refine ⟨t, _, rfl, .inr ⟨SqT.of upd_same, for_it (walk_enumT (K := K) (xs := [V.int 2147483647, V.int 2147483629, V.int 2147483587, V.int 2147483579, V.int 2147483563])) (fun i σ' H' => ∃ (u v x : Option V) (l' : Int), σ' = [some (.ref st), some (.ref c), some (.int n), some (.int seed), u, v, x] ∧ Kp st (upd H4 t (.tup [V.int 2147483647, V.int 2147483629, V.int 2147483587, V.int 2147483579, V.int 2147483563])) H' ∧ H' st = some (.lst [.ref c, .int (n + 1), .int l', .bl b'])) ?_ ?_ ?_ ?_⟩⟩
      · exact ⟨_, _, _, _, rfl, Kp.refl _ _, by rw [upd_ne hts.symm]; exact g7⟩
      · rintro i σ' H' _ ⟨u, v, x, l', rfl, e, _⟩
        exact SqT.of (e _ _ hts upd_same)
      · rintro i y σ' H' H'' hi ⟨u, v, x, l', rfl, e, e2⟩ ⟨T, x1, x2, rfl, nT, rfl, hx1, hx2⟩
        obtain ⟨pr, rfl, pr0, pr1⟩ : ∃ pr : Int, x2 = .int pr ∧ 0 < pr ∧ pr < 2147483648 := by
          have hm := mem_at hx2
          simp only [List.mem_cons, List.not_mem_nil, or_false] at hm
          rcases hm with rfl | rfl | rfl | rfl | rfl <;> exact ⟨_, rfl, by decide, by decide⟩
        cases (Option.some.inj hx1)
        have hi : i < 5 := hi
        have hTs : T ≠ st := (ne_of_none e2 nT).symm
        refine ⟨T, _, rfl, SqT.of upd_same, rfl, _, _, rfl, _, _, rfl, rfl, ?_⟩
        refine ⟨_, rfl, _, rfl, _, _, rfl, rfl, .inl ⟨by decide, by decide⟩, _, rfl, _, _, rfl, rfl, .inr ⟨by omega, by omega⟩, _, _, rfl, rfl, ?_⟩
        refine ⟨_, rfl, _, _, rfl, rfl, .inl ⟨by decide, by decide⟩, _, _, rfl, rfl, _, rfl, _, _, rfl, rfl, .inl ⟨by decide, by decide⟩, _, _, rfl, rfl, _, _, rfl, rfl, .inr ⟨by omega, by omega⟩, ?_⟩
        refine .inl ⟨_, rfl, _, rfl, _, _, rfl, rfl, by omega, ?_⟩
        generalize hfar : Int.fmod _ pr = far
        have hfar2 := fmod_bd (((seed + 10007 * (i : Int) * (i : Int) + 101 * (i : Int)) * (48271 + 2 * (i : Int)))) pr0
        rw [hfar] at hfar2
        refine ⟨_, rfl, _, _, _, _, rfl, rfl, SqL.of (by rw [upd_ne hTs.symm]; exact e2), rfl, _, rfl, _, _, rfl, rfl, .inr ⟨by omega, by omega⟩, ?_⟩
        refine ⟨_, rfl, _, _, rfl, rfl, ⟨by decide, by decide, by omega⟩, .inl ⟨_, rfl, _, rfl, _, _, rfl, rfl, by omega, _, _, rfl, rfl, _, rfl, _, _, _, _, rfl, rfl, by rw [upd_ne hTs.symm]; exact e2, rfl, ?_⟩⟩
        refine ⟨_, _, _, _, rfl, (e.trans (Kp.of (Same.upd' nT))).trans (Kp.upd _ _ _), upd_same⟩
      · rintro σ' H' ⟨u, v, x, l', rfl, e, e2⟩
        exact k _ ⟨⟨_, _, _, e2⟩, ⟨ns, e _ _ ne (by rw [upd_ne htc.symm]; exact g8), hl⟩, ne⟩ ((kp4.trans (Kp.of (Same.upd' nt))).trans e)
end
end Lm

namespace Lm
open PySem L2
/-! ### what is wanted may be weakened -/
def MonE (te : TE) : Prop := ∀ σ H (Q Q' : VK), (∀ v H1, Q v H1 → Q' v H1) → te σ H Q → te σ H Q'
def MonT (tt : TT) : Prop := ∀ σ H (Q Q' : Bool → Hp → Prop), (∀ b H1, Q b H1 → Q' b H1) → tt σ H Q → tt σ H Q'
def MonR (r : R2) : Prop := ∀ x y H (Q Q' : VK), (∀ v H1, Q v H1 → Q' v H1) → r x y H Q → r x y H Q'
theorem monE_var {i : Nat} : MonE (tVar i) := fun σ H Q Q' h ⟨v, e, q⟩ => ⟨v, e, h _ _ q⟩
theorem monE_c {v : V} : MonE (tC v) := fun σ H Q Q' h q => h _ _ q
theorem monE_op {r : R2} {ta tb : TE} (hr : MonR r) (ha : MonE ta) (hb : MonE tb) : MonE (tOp r ta tb) := fun σ H Q Q' h q => ha _ _ _ _ (fun x H1 q => hb _ _ _ _ (fun y H2 q => hr _ _ _ _ _ h q) q) q
theorem mon_I0 {g : Int → Int → V} : MonR (rI0 g) := fun x y H Q Q' h ⟨i, j, e1, e2, q⟩ => ⟨i, j, e1, e2, h _ _ q⟩
theorem mon_I {C : Int → Int → Prop} {g : Int → Int → V} : MonR (rI C g) := fun x y H Q Q' h ⟨i, j, e1, e2, c, q⟩ => ⟨i, j, e1, e2, c, h _ _ q⟩
theorem mon_ixL {K : PySem.W.Frag} : MonR (rIxL K) := fun x y H Q Q' h ⟨p, xs, i, v, e1, e2, e3, e4, q⟩ => ⟨p, xs, i, v, e1, e2, e3, e4, h _ _ q⟩
theorem mon_eq : MonR rEq := fun x y H Q Q' h ⟨e, q⟩ => ⟨e, h _ _ q⟩
theorem monT_test {te : TE} (he : MonE te) : MonT (tTest te) := fun σ H Q Q' h q => he _ _ _ _ (fun x H1 ⟨k, e, q⟩ => ⟨k, e, h _ _ q⟩) q
theorem monT_B {te : TE} (he : MonE te) : MonT (tB te) := fun σ H Q Q' h q => he _ _ _ _ (fun x H1 ⟨k, e, q⟩ => ⟨k, e, h _ _ q⟩) q
theorem monT_and {t u : TT} (ht : MonT t) (hu : MonT u) : MonT (tAnd t u) := fun σ H Q Q' h q => ht _ _ _ _ (fun b H1 q => by cases b with | true => exact hu _ _ _ _ h q | false => exact h _ _ q) q
theorem monT_or {t u : TT} (ht : MonT t) (hu : MonT u) : MonT (tOr t u) := fun σ H Q Q' h q => ht _ _ _ _ (fun b H1 q => by cases b with | true => exact h _ _ q | false => exact hu _ _ _ _ h q) q
section
variable {P : Program} {w : World} {K : PySem.W.Frag} {mg : Str → Option Value} {base : Heap} {f : Addr} {fd : FuncData}
def spTake : Sp := fun vs H Q _ => ∃ (st c : Addr) (m : Int), vs = [.ref st, .int m] ∧ StAt H st c ∧ 0 < m ∧ m < 1073741824 ∧ ∀ d H', 0 ≤ d → d < m → StAt H' st c → Kp st H H' → Q (.int d) H'
abbrev s_take : Stmt := top 30
theorem sc_take : FnScope ["_law_state", "_law_many", "_law_laps", "_law_digit"] ["_law_state", "_law_many"] (defScope s_take) := ⟨rfl, rfl, rfl, by decide +kernel, rfl, by decide +kernel, by decide +kernel⟩
theorem ok_take {fF : Addr} {fdF : FuncData} (F : Fun K "_law_take" "_law_take" s_take f fd) (T : Blt mg) (D_fill : DefOk P w K mg base 1 "_law_fill" fF fdF ["_law_state"] spFill) : FnOk P w K mg base CX0 2 f fd ["_law_state", "_law_many"] spTake := by
  refine F.ok sc_take (fun vs H Q E h => ?_) (fun cdv A outer s H vs Q E hr h => ?_)
  · obtain ⟨st, c, m, rfl, _⟩ := h
    rfl
  · obtain ⟨st, c, m, rfl, S, m0, m1, k⟩ := h
    refine ⟨_, (pss_cons (ps_set (i := 2) sc_take.nd rfl (by first | exact Or.inl rfl | exact Or.inr rfl) pe_int)
        (pss_cons (ps_while PassesOwn.never (PW.pt (pw_and (pt_cmpR op_lt (pv 2) pe_int (nomark _)) (pw_and1 (PW.pt (pw_or (pt_cmpR op_eq (pe_ix ix_list (pv 0) pe_int (fun _ _ => rfl)) pe_int (nomark _)) (pw_or1 (PW.pt (pw_and (pt_val (pe_ix ix_list (pv 0) pe_int (fun _ _ => rfl))) (pw_and1 (pt_cmpR op_lt (pe_ix ix_list (pv 0) pe_int (fun _ _ => rfl)) (pe_op op_mul (pv 1) pe_int) (nomark _))))))))))) (pss_cons (ps_expr (pe_d D_fill (hr.mono (by decide)) (pa_cons (pv 0) pa_nil)))
        (pss_cons (ps_aug (i := 2) sc_take.nd rfl (by first | exact Or.inl rfl | exact Or.inr rfl) pe_int ip_add)
        (pss_one (ps_if (PW.pt (pw_and (pt_val (pe_ix ix_list (pv 0) pe_int (fun _ _ => rfl))) (pw_and1 (pt_cmpR op_lt (pe_ix ix_list (pv 0) pe_int (fun _ _ => rfl)) (pe_op op_mul (pv 1) pe_int) (nomark _))))) (pss_one (ps_asg (pe_op op_add (pe_ix ix_list (pv 0) pe_int (fun _ _ => rfl)) (pe_op op_mul (pe_op op_mul (pv 1) pe_int) (pe_op op_add pe_int (pe_op op_modN (pe_callTy call_int1 (by rfl) T.b_int (by decide +kernel) (pa_cons (pe_ix ix_list (pv 0) pe_int (fun _ _ => rfl)) pa_nil)) pe_int)))) (pg_sub (pv 0) pe_int set_list))) pss_nil)))))
        (pss_cons (ps_set (i := 3) sc_take.nd rfl (by first | exact Or.inl rfl | exact Or.inr rfl) (pe_op op_modN (pe_callTy call_int1 (by rfl) T.b_int (by decide +kernel) (pa_cons (pe_ix ix_list (pv 0) pe_int (fun _ _ => rfl)) pa_nil)) (pv 1)))
        (pss_cons (ps_asg (pe_op op_fdivN (pe_ix ix_list (pv 0) pe_int (fun _ _ => rfl)) (pv 1)) (pg_sub (pv 0) pe_int set_list))
        (pss_one (ps_ret (pv 3))))))), ?_⟩
    refine while_by (fun σ' H' => ∃ (i : Nat), σ' = [some (.ref st), some (.int m), some (.int (i : Int)), none] ∧ i ≤ 64 ∧ StAt H' st c ∧ Kp st H H') (fun σ' _ => match σ' with | [_, _, some (.int i), _] => (64 - i).toNat | _ => 0) ⟨0, rfl, by decide, S, Kp.refl _ _⟩ ?_ ?_
    · rintro σ' H' ⟨i, rfl, hi, S', e⟩
      obtain ⟨⟨n, l, b, h1⟩, ⟨ns, h2, hl⟩, ne⟩ := id S'
      -- behind the loop
      have after : tSeq (tAsg (tOp (rI (fun x j => j ≠ 0) fun i j => V.int (i.fmod j)) (tCB (fun xs H Q => (∃ i, xs = [V.int i] ∧ Q (V.int i) H) ∨ ∃ k, xs = [V.bl k] ∧ Q (V.int (if k = true then 1 else 0)) H) (tCons (tOp (rIxL K) (tVar 0) (tC (.int 2))) tNil)) (tVar 1)) (gName 3))
          (tSeq (tAsg (tOp (rI CDivN fun i j => .int (i.fdiv j)) (tOp (rIxL K) (tVar 0) (tC (.int 2))) (tVar 1)) (gSub (tVar 0) (tC (.int 2)) rSetL)) (tRet (tVar 3))) { nx := fun _ H' => Q .non H', rt := Q } [some (.ref st), some (.int m), some (.int (i : Int)), none] H' := by
        refine ⟨_, rfl, _, _, _, _, rfl, rfl, SqL.of h1, rfl, .inl ⟨_, rfl, _, rfl, _, _, rfl, rfl, by omega, ?_⟩⟩
        have hd := fmod_bd l m0
        refine ⟨_, rfl, _, _, _, _, rfl, rfl, SqL.of h1, rfl, _, rfl, _, _, rfl, rfl, ⟨by omega, by omega⟩, _, rfl, _, _, _, _, rfl, rfl, h1, rfl, _, rfl, ?_⟩
        exact k _ _ hd.1 hd.2 ⟨⟨_, _, _, upd_same⟩, ⟨ns, by rw [upd_ne ne]; exact h2, hl⟩, ne⟩ (e.trans (Kp.upd _ _ _))
      refine ⟨_, rfl, _, _, rfl, rfl, _, rfl, ite2 (fun hc => ?_) (fun _ => iteF after)⟩
      have hc : i < 64 := by have := of_decide_eq_true hc; omega
      refine ⟨_, rfl, _, _, _, _, rfl, rfl, SqL.of h1, rfl, rfl, _, rfl, ite2 (fun _ => ?b1) (fun _ => ⟨_, rfl, _, _, _, _, rfl, rfl, SqL.of h1, rfl, _, rfl, ite2 (fun _ => ⟨_, rfl, _, _, _, _, rfl, rfl, SqL.of h1, rfl, _, rfl, _, _, rfl, rfl, .inr ⟨by decide, by decide⟩, _, _, rfl, rfl, _, rfl, ite2 (fun _ => ?b2) (fun _ => ?c1)⟩) (fun _ => ?c2)⟩)⟩
      case c1 => exact after
      case c2 => exact after
      all_goals
        refine ⟨_, rfl, st, c, rfl, S', fun H2 S2 e2 => ?_⟩
        obtain ⟨⟨n2, l2, b2, g1⟩, ⟨ns2, g2, gl⟩, _⟩ := id S2
        have fin : ∀ H3, StAt H3 st c → Kp st H2 H3 → (∃ j : Nat, [some (V.ref st), some (.int m), some (.int ((i : Int) + 1)), none] = [some (.ref st), some (.int m), some (.int (j : Int)), none] ∧ j ≤ 64 ∧ StAt H3 st c ∧ Kp st H H3) ∧ (64 - ((i : Int) + 1)).toNat < (64 - (i : Int)).toNat :=
          fun H3 S3 e3 => ⟨⟨i + 1, by simp, by omega, S3, (e.trans e2).trans e3⟩, by omega⟩
        refine ⟨_, rfl, _, _, rfl, rfl, ?_⟩
        refine ⟨_, rfl, _, _, _, _, rfl, rfl, SqL.of g1, rfl, _, rfl, ite2 (fun _ => ⟨_, rfl, _, _, _, _, rfl, rfl, SqL.of g1, rfl, _, rfl, _, _, rfl, rfl, .inr ⟨by decide, by decide⟩, _, _, rfl, rfl, _, rfl, ite2 (fun _ => ?_) (fun _ => fin _ S2 (Kp.refl _ _))⟩) (fun _ => fin _ S2 (Kp.refl _ _))⟩
        have hr2 := fmod_bd l2 (p := 4093) (by decide)
        refine ⟨_, rfl, _, _, _, _, rfl, rfl, SqL.of g1, rfl, _, rfl, _, _, rfl, rfl, .inr ⟨by decide, by decide⟩, _, rfl, _, _, _, _, rfl, rfl, SqL.of g1, rfl, .inl ⟨_, rfl, _, _, rfl, rfl, (by show (4093 : Int) ≠ 0; decide), _, _, rfl, rfl, _, _, rfl, rfl, .inr ⟨by omega, by omega⟩, _, _, rfl, rfl, _, rfl, _, _, _, _, rfl, rfl, g1, rfl, ?_⟩⟩
        exact fin _ ⟨⟨_, _, _, upd_same⟩, ⟨ns2, by rw [upd_ne ne]; exact g2, gl⟩, ne⟩ (Kp.upd _ _ _)
    · exact monT_and (monT_test (monE_op mon_I0 (monE_var) (monE_c))) (monT_or (monT_test (monE_op mon_eq (monE_op mon_ixL monE_var monE_c) monE_c)) (monT_and (monT_B (monE_op mon_ixL monE_var monE_c)) (monT_test (monE_op mon_I0 (monE_op mon_ixL monE_var monE_c) (monE_op mon_I monE_var monE_c)))))
end
end Lm

namespace Lm
open PySem L2
section
variable {P : Program} {w : World} {K : PySem.W.Frag} {mg : Str → Option Value} {base : Heap} {f : Addr} {fd : FuncData}
def spOneA (K : PySem.W.Frag) : Sp := fun vs H Q _ => ∃ (st c t : Addr) (xs : List V), vs = [.ref st, .ref t] ∧ StAt H st c ∧ t ≠ st ∧ (SqL K H t xs ∨ SqT K H t xs) ∧ 0 < xs.length ∧ xs.length < 1073741824 ∧ ∀ v H', v ∈ xs → StAt H' st c → Kp st H H' → Q v H'
def spOne (K : PySem.W.Frag) : Sp := fun vs H Q _ => ∃ (st c t : Addr) (xs : List V), vs = [.ref st, .ref t] ∧ StAt H st c ∧ t ≠ st ∧ SqT K H t xs ∧ 0 < xs.length ∧ xs.length < 1073741824 ∧ ∀ v H', v ∈ xs → StAt H' st c → Kp st H H' → Q v H'
abbrev s_one : Stmt := top 31
theorem sc_one : FnScope ["_law_state", "_law_things"] ["_law_state", "_law_things"] (defScope s_one) := ⟨rfl, rfl, rfl, by decide +kernel, rfl, by decide +kernel, by decide +kernel⟩
theorem ok_oneA {fT : Addr} {fdT : FuncData} (F : Fun K "_law_one" "_law_one" s_one f fd) (T : Blt mg) (D_take : DefOk P w K mg base 2 "_law_take" fT fdT ["_law_state", "_law_many"] spTake) : FnOk P w K mg base CX0 3 f fd ["_law_state", "_law_things"] (spOneA K) := by
  refine F.ok sc_one (fun vs H Q E h => ?_) (fun cdv A outer s H vs Q E hr h => ?_)
  · obtain ⟨st, c, t, xs, rfl, _⟩ := h
    rfl
  · obtain ⟨st, c, t, xs, rfl, S, hts, hq, l0, l1, k⟩ := h
    refine ⟨_, (pss_one (ps_ret (pe_ix ix_seq (pv 1) (pe_d D_take (hr.mono (by decide)) (pa_cons (pv 0) (pa_cons (pe_callB call_len_seq (by rfl) T.b_len PySem.boot_len (pa_cons (pv 1) pa_nil)) pa_nil))) (fun _ _ => rfl)))), ?_⟩
    refine ⟨_, rfl, _, rfl, _, rfl, _, _, rfl, hq, st, c, _, rfl, S, by omega, by omega, fun d H' d0 d1 S' e => ?_⟩
    have hd : d.toNat < xs.length := by omega
    have at_ := at_of (Int.toNat_of_nonneg d0).symm (List.getElem?_eq_getElem hd)
    have fin := k _ _ (List.getElem_mem hd) S' e
    rcases hq with hq | hq
    · exact .inl ⟨t, xs, d, _, rfl, rfl, e.seqL hts hq, at_, fin⟩
    · exact .inr (.inl ⟨t, xs, d, _, rfl, rfl, e.seqT hts hq, at_, fin⟩)
theorem ok_one {fT : Addr} {fdT : FuncData} (F : Fun K "_law_one" "_law_one" s_one f fd) (T : Blt mg) (D_take : DefOk P w K mg base 2 "_law_take" fT fdT ["_law_state", "_law_many"] spTake) : FnOk P w K mg base CX0 3 f fd ["_law_state", "_law_things"] (spOne K) :=
  (ok_oneA F T D_take).imp fun vs H Q E ⟨st, c, t, xs, h1, h2, h3, h4, h5, h6, h7⟩ => ⟨st, c, t, xs, h1, h2, h3, .inr h4, h5, h6, h7⟩
/-! ### the words -/
def sg (c : Nat) : Str := ⟨#[c]⟩
def two (c d : Nat) : Str := ⟨#[c, d]⟩
def row2 (c : Nat) : List Str := [103, 104, 105, 106, 107, 108, 109, 110, 111, 112].map (two c)
def w0 : List Str := ["a", "b", "k", "zz", "abcdefgh"]
def allW : List Str := w0 ++ [97, 98, 99, 100, 101, 102].flatMap row2
theorem two_eq (c d : Nat) : sg c ++ sg d = two c d := rfl
theorem len1 (c : Nat) : (sg c).length = 1 := rfl
def spAllW : Sp := fun vs H Q _ => vs = [] ∧ ∀ p H', H p = none → Same H H' → H' p = some (.lst (allW.map V.str)) → Q (.ref p) H'
abbrev s_all_words : Stmt := top 32
theorem sc_all_words : FnScope ["_law_found", "_law_x", "_law_y"] [] (defScope s_all_words) := ⟨rfl, rfl, rfl, by decide +kernel, rfl, by decide +kernel, by decide +kernel⟩
theorem sixL : ("abcdef" : Str).cps = #[97, 98, 99, 100, 101, 102] := by decide +kernel
theorem tenL : ("ghijklmnop" : Str).cps = #[103, 104, 105, 106, 107, 108, 109, 110, 111, 112] := by decide +kernel
theorem ok_all_words (F : Fun K "_law_all_words" "_law_all_words" s_all_words f fd) (T : Blt mg) : FnOk P w K mg base CX0 1 f fd [] spAllW := by
  refine F.ok sc_all_words (fun vs H Q E h => ?_) (fun cdv A outer s H vs Q E hr h => ?_)
  · obtain ⟨rfl, _⟩ := h
    rfl
  · obtain ⟨rfl, k⟩ := h
    refine ⟨_, (pss_cons (ps_set (i := 0) sc_all_words.nd rfl (by first | exact Or.inl rfl | exact Or.inr rfl) (pe_lst (pa_cons pe_str (pa_cons pe_str (pa_cons pe_str (pa_cons pe_str (pa_cons pe_str pa_nil)))))))
        (pss_cons (ps_for PassesOwn.never rfl (pi_str pe_str) (pg_name (i := 1) sc_all_words.nd rfl (by first | exact Or.inl rfl | exact Or.inr rfl)) (pss_one (ps_expr (pe_bm PySem.F.plainAttrs_list PySem.F.slot_list_extend PySem.F.type_list_extend mt_extend (pv 0) (by exact (pa_cons (pe_lc (own := [("_law_y", 2)]) (g := gName 2) (tt := tYes)/- R binop -/ rfl sc_all_words.nd (pi_str pe_str) (blkOk_by (own := [("_law_y", 2)]) (by kernel_rfl)) (fun _ _ _ _ _ => (pg_name (i := 2) sc_all_words.nd rfl (by first | exact Or.inl rfl | exact Or.inr rfl))) (fun _ _ _ _ _ => pts_nil) (fun _ _ _ _ _ => by exact (pe_op op_add_str (pv 1) (pv 2)))) pa_nil))))))
        (pss_one (ps_ret (pv 0))))), ?_⟩
    refine ⟨by show 5 ≤ sizeLine; decide, fun p np => ?_⟩
    refine ⟨_, rfl, for_it walk_str (fun i σ' H' => ∃ u v : Option V, σ' = [some (.ref p), u, v] ∧ Same H H' ∧ H' p = some (.lst ((w0 ++ ([97, 98, 99, 100, 101, 102].take i).flatMap row2).map V.str))) ⟨none, none, rfl, Same.upd' np, upd_same⟩ (fun _ _ _ _ _ => True.intro) ?_ ?_⟩
    · rintro i x σ' H' H'' hi ⟨u, v, rfl, e, hp⟩ ⟨rfl, c, hc, rfl⟩
      rw [sixL] at hi hc
      refine ⟨_, rfl, .inl ⟨rfl, _, SqL.of hp⟩, ?_⟩
      refine ⟨_, rfl, fun D nD => lc_it walk_str (fun j H2 => Same H'' H2 ∧ H2 D = some (.lst ((([103, 104, 105, 106, 107, 108, 109, 110, 111, 112].take j).map (two c)).map V.str))) ⟨Same.upd' nD, upd_same⟩ (fun _ _ _ _ => True.intro) ?_ ?_⟩
      · rintro j y H2 H3 hj ⟨g1, g2⟩ ⟨rfl, d, hd, rfl⟩
        rw [tenL] at hj hd
        refine ⟨rfl, _, rfl, _, rfl, sg c, sg d, rfl, rfl, by rw [len1, len1]; decide, _, g2, small1000 (by simp; omega), ?_⟩
        refine ⟨Same.mut g1 nD, ?_⟩
        have hd' : [103, 104, 105, 106, 107, 108, 109, 110, 111, 112][j]? = some d := by simpa using hd
        rw [upd_same, List.take_succ, hd', two_eq]
        simp
      · rintro H2 ⟨g1, g2⟩
        rw [tenL] at g2
        have g2 : H2 D = some (.lst ((row2 c).map V.str)) := g2
        have hDp : D ≠ p := (ne_of_none hp nD).symm
        have hc' : [97, 98, 99, 100, 101, 102][i]? = some c := by simpa using hc
        refine ⟨_, _, _, _, rfl, rfl, g1 _ _ hp, g2, ?_, ?_⟩
        · show _ ≤ sizeLine
          refine Nat.le_of_lt (small1000 ?_)
          have hi' : i ≤ 6 := Nat.le_of_lt hi
          have : ∀ i ≤ 6, ((w0 ++ ([97, 98, 99, 100, 101, 102].take i).flatMap row2).map V.str).length ≤ 800 := by decide +kernel
          have h1 := this i hi'
          have h2 : ((row2 c).map V.str).length = 10 := by simp [row2]
          omega
        · refine ⟨_, _, rfl, Same.mut (e.trans g1) np, ?_⟩
          rw [upd_same, List.take_succ, hc']
          simp
    · rintro σ' H' ⟨u, v, rfl, e, hp⟩
      rw [sixL] at hp
      exact ⟨_, rfl, k p _ np e hp⟩
end
end Lm

namespace Lm
open PySem L2
def isW (x : Str) : Bool := decide (1 ≤ x.cps.size) && decide (x.cps.size ≤ 8) && x.cps.toList.all fun c => decide (97 ≤ c) && decide (c ≤ 122)
theorem allW_nodup : allW.Nodup := by decide +kernel
theorem allW_len : allW.length = 65 := by decide +kernel
theorem allW_word : ∀ x ∈ allW, isW x = true := by decide +kernel
/-- of the words so many, all unlike -/
structure Wds (ws : List Str) (n : Nat) : Prop where
  len : ws.length = n
  nd : ws.Nodup
  wd : ∀ x ∈ ws, isW x = true
theorem perm_erase {α : Type} : ∀ (l : List α) (i : Nat) (h : i < l.length), (l[i] :: l.eraseIdx i).Perm l
  | a :: r, 0, _ => .refl _
  | a :: r, i + 1, h => by
    have := perm_erase r i (by simpa using h)
    exact (List.Perm.swap _ _ _).trans (this.cons a)
theorem erase_map {α β : Type} (g : α → β) : ∀ (l : List α) (i : Nat), (l.map g).eraseIdx i = (l.eraseIdx i).map g
  | [], _ => rfl
  | _ :: _, 0 => rfl
  | a :: r, i + 1 => by
    show g a :: (r.map g).eraseIdx i = g a :: (r.eraseIdx i).map g
    rw [erase_map g r i]
theorem wds_of {F L : List Str} (h : (F ++ L).Perm allW) : Wds F F.length := by
  have nd := h.symm.nodup allW_nodup
  exact ⟨rfl, (List.nodup_append.mp nd).1, fun x hx => allW_word x (h.mem_iff.mp (List.mem_append_left _ hx))⟩
section
variable {P : Program} {w : World} {K : PySem.W.Frag} {mg : Str → Option Value} {base : Heap} {f : Addr} {fd : FuncData}
def spSomeW : Sp := fun vs H Q _ => ∃ (st c : Addr) (m : Nat), vs = [.ref st, .int m] ∧ StAt H st c ∧ m ≤ 60 ∧ ∀ p ws H', H p = none → Wds ws m → StAt H' st c → Kp st H H' → H' p = some (.lst (ws.map V.str)) → Q (.ref p) H'
abbrev s_some_words : Stmt := top 33
theorem sc_some_words : FnScope ["_law_state", "_law_many", "_law_left", "_law_found", "_law_k"] ["_law_state", "_law_many"] (defScope s_some_words) := ⟨rfl, rfl, rfl, by decide +kernel, rfl, by decide +kernel, by decide +kernel⟩
theorem ok_some_words {fT fW : Addr} {fdT fdW : FuncData} (F : Fun K "_law_some_words" "_law_some_words" s_some_words f fd) (T : Blt mg) (D_take : DefOk P w K mg base 2 "_law_take" fT fdT ["_law_state", "_law_many"] spTake)
    (D_all_words : DefOk P w K mg base 1 "_law_all_words" fW fdW [] spAllW) : FnOk P w K mg base CX0 3 f fd ["_law_state", "_law_many"] spSomeW := by
  refine F.ok sc_some_words (fun vs H Q E h => ?_) (fun cdv A outer s H vs Q E hr h => ?_)
  · obtain ⟨st, c, m, rfl, _⟩ := h
    rfl
  · obtain ⟨st, c, m, rfl, S, hm, k⟩ := h
    refine ⟨_, (pss_cons (ps_par (i := 2) (j := 3) (by rfl) sc_some_words.nd rfl rfl (by decide) rfl rfl (pa_cons (pe_d0 D_all_words (hr.mono (by decide))) (pa_cons (pe_lst pa_nil) pa_nil)) (by rfl))
        (pss_cons (ps_for PassesOwn.never rfl (pi_range1 rfl T.b_range (pa_cons (pv 1) pa_nil)) (pg_name (i := 4) sc_some_words.nd rfl (by first | exact Or.inl rfl | exact Or.inr rfl)) (pss_one (ps_expr (pe_bm PySem.F.plainAttrs_list PySem.F.slot_list_append PySem.F.type_list_append mt_append (pv 3) (pa_cons (pe_bm PySem.F.plainAttrs_list PySem.F.slot_list_pop PySem.F.type_list_pop mt_popAt (pv 2) (pa_cons (pe_d D_take (hr.mono (by decide)) (pa_cons (pv 0) (pa_cons (pe_callB call_len_seq (by rfl) T.b_len PySem.boot_len (pa_cons (pv 2) pa_nil)) pa_nil))) pa_nil)) pa_nil)))))
        (pss_one (ps_ret (pv 3))))), ?_⟩
    refine ⟨rfl, fun l H1 nl e1 hl => ⟨by show 0 ≤ sizeLine; decide, fun fo nfo => ⟨_, _, rfl, ?_⟩⟩⟩
    have nfo' := e1.free nfo
    have hlf : l ≠ fo := ne_of_none hl nfo
    refine ⟨_, rfl, _, rfl, by omega, by omega, for_range (n := ((m : Int) - 0).toNat) (fun i σ' H' => ∃ (u : Option V) (F L : List Str), σ' = [some (.ref st), some (.int m), some (.ref l), some (.ref fo), u] ∧ F.length = i ∧ (F ++ L).Perm allW ∧ StAt H' st c ∧ Kp st H H' ∧ H' l = some (.lst (L.map V.str)) ∧ H' fo = some (.lst (F.map V.str)))
      ⟨none, [], allW, rfl, rfl, .refl _, (S.same e1).same (Same.upd' nfo), Kp.of (e1.trans (Same.upd' nfo)), by rw [upd_ne hlf]; exact hl, upd_same⟩ ?_ ?_⟩
    · rintro i σ' H' hi ⟨u, F, L, rfl, hF, hp, S', e, gl, gf⟩
      have hi : i < m := by omega
      have hlen : F.length + L.length = 65 := by
        have := hp.length_eq
        rw [List.length_append, allW_len] at this
        exact this
      obtain ⟨hls, hlc⟩ : l ≠ st ∧ l ≠ c := S.of_new nl
      obtain ⟨hfs, hfc⟩ : fo ≠ st ∧ fo ≠ c := S.of_new nfo'
      refine ⟨_, rfl, .inl ⟨rfl, _, SqL.of gf⟩, ?_⟩
      refine ⟨_, rfl, .inl ⟨rfl, _, SqL.of gl⟩, _, rfl, _, rfl, _, _, rfl, .inl (SqL.of gl), st, c, _, rfl, S', by simp; omega, by simp; omega, fun d H2 d0 d1 S2 e2 => ?_⟩
      have gl2 := e2 _ _ hls gl
      have gf2 := e2 _ _ hfs gf
      have hd : d.toNat < L.length := by simp at d1; omega
      refine ⟨l, _, d, d.toNat, _, rfl, rfl, gl2, by omega, by omega, PySem.seqIndex_of d0 (by simpa using d1), (by rw [List.getElem?_map, List.getElem?_eq_getElem hd]; rfl), ?_⟩
      refine ⟨_, _, _, rfl, rfl, by rw [upd_ne hlf.symm]; exact gf2, small1000 (by simp; omega), ?_⟩
      refine ⟨_, F ++ [L[d.toNat]], L.eraseIdx d.toNat, rfl, by simp [hF], ?_, (S2.mut hls hlc).mut hfs hfc, Kp.mut (Kp.mut (e.trans e2) nl) nfo', ?_, ?_⟩
      · refine List.Perm.trans ?_ hp
        rw [List.append_assoc]
        exact (perm_erase L d.toNat hd).append_left F
      · rw [upd_ne hlf, upd_same, erase_map]
      · rw [upd_same]
        simp
    · rintro σ' H' ⟨u, F, L, rfl, hF, hp, S', e, gl, gf⟩
      have hF : F.length = m := by omega
      exact ⟨_, rfl, k fo F H' nfo' (hF ▸ wds_of hp) S' e gf⟩
def spKept : Sp := fun vs H Q _ => ∃ (st c : Addr) (m : Nat), vs = [.ref st, .int m] ∧ StAt H st c ∧ m ≤ 60 ∧ ∀ p (S : Nat → Bool) H', H p = none → StAt H' st c → Kp st H H' → H' p = some (.lst (((List.range m).filter S).map fun i : Nat => V.int i)) → Q (.ref p) H'
abbrev s_kept : Stmt := top 34
theorem sc_kept : FnScope ["_law_state", "_law_many", "_law_wide", "_law_side", "_law_k"] ["_law_state", "_law_many"] (defScope s_kept) := ⟨rfl, rfl, rfl, by decide +kernel, rfl, by decide +kernel, by decide +kernel⟩
theorem ok_kept {fT fO : Addr} {fdT fdO : FuncData} (F : Fun K "_law_kept" "_law_kept" s_kept f fd) (T : Blt mg) (D_take : DefOk P w K mg base 2 "_law_take" fT fdT ["_law_state", "_law_many"] spTake)
    (D_one : DefOk P w K mg base 3 "_law_one" fO fdO ["_law_state", "_law_things"] (spOne K)) : FnOk P w K mg base CX0 4 f fd ["_law_state", "_law_many"] spKept := by
  refine F.ok sc_kept (fun vs H Q E h => ?_) (fun cdv A outer s H vs Q E hr h => ?_)
  · obtain ⟨st, c, m, rfl, _⟩ := h
    rfl
  · obtain ⟨st, c, m, rfl, S, hm, k⟩ := h
    refine ⟨_, (pss_cons (ps_asg (pe_tup (pa_cons (pe_d D_one (hr.mono (by decide)) (pa_cons (pv 0) (pa_cons (pe_tup (pa_cons pe_int (pa_cons pe_int (pa_cons pe_int (pa_cons pe_int (pa_cons pe_int pa_nil)))))) pa_nil))) (pa_cons (pe_d D_take (hr.mono (by decide)) (pa_cons (pv 0) (pa_cons pe_int pa_nil))) pa_nil))) (pg_tup rfl (pgs_cons (pg_name (i := 2) sc_kept.nd rfl (by first | exact Or.inl rfl | exact Or.inr rfl)) (pgs_cons (pg_name (i := 3) sc_kept.nd rfl (by first | exact Or.inl rfl | exact Or.inr rfl)) pgs_nil))))
        (pss_one (ps_ret (pe_lc (own := [("_law_k", 4)]) (g := gName 4) (tt := (tTest (tOp rEq (tOp rEq (tCall spTake [] E0 (tCons (tVar 0) (tCons (tVar 2) tNil))) (tC (.int 0))) (tOp rEq (tVar 3) (tC (.int 0)))))) (te := (tVar 4)) rfl sc_kept.nd (pi_range1 rfl T.b_range (pa_cons (pv 1) pa_nil)) (blkOk_by (own := [("_law_k", 4)]) (by kernel_rfl)) (fun _ _ _ _ _ => (pg_name (i := 4) sc_kept.nd rfl (by first | exact Or.inl rfl | exact Or.inr rfl))) (fun _ _ _ _ _ => by exact (pts_one (pt_cmpR op_eq (pe_cmpR op_eq (pe_d D_take (hr.mono (by decide)) (pa_cons (pv 0) (pa_cons (pv 2) pa_nil))) pe_int (nomark _)) (pe_cmpR op_eq (pv 3) pe_int (nomark _)) (nomark _)))) (fun _ _ _ _ _ => by exact (pv 4)))))), ?_⟩
    refine ⟨_, rfl, by show 5 ≤ sizeLine; decide, fun t nt => ?_⟩
    have hts := (S.of_new nt).1
    refine ⟨st, c, t, _, rfl, S.same (Same.upd' nt), hts, SqT.of upd_same, by show 0 < 5; decide, by show 5 < _; decide, fun v H1 hv S1 e1 => ?_⟩
    obtain ⟨wide, rfl, w0, w1⟩ : ∃ n : Int, v = .int n ∧ 0 < n ∧ n < 100 := by
      simp only [List.mem_cons, List.not_mem_nil, or_false] at hv
      rcases hv with rfl | rfl | rfl | rfl | rfl <;> exact ⟨_, rfl, by decide, by decide⟩
    refine ⟨_, rfl, st, c, 2, rfl, S1, by decide, by decide, fun side H2 s0 s1 S2 e2 => ?_⟩
    have e12 : Kp st H H2 := ((Kp.of (Same.upd' nt)).trans e1).trans e2
    refine ⟨by show 2 ≤ sizeLine; decide, fun t2 nt2 => ?_⟩
    refine ⟨t2, _, rfl, SqT.of upd_same, rfl, _, _, rfl, _, _, rfl, rfl, ?_⟩
    have S3 : StAt (upd H2 t2 (.tup [.int wide, .int side])) st c := S2.same (Same.upd' nt2)
    have e3 : Kp st H (upd H2 t2 (.tup [.int wide, .int side])) := e12.trans (Kp.of (Same.upd' nt2))
    refine ⟨_, rfl, _, rfl, by omega, by omega, fun D nD => ?_⟩
    have nDH : H D = none := e3.free (S3.of_new nD).1 nD
    refine lc_range (lo := 0) (n := (m : Int).toNat) (fun i H' => StAt H' st c ∧ Kp st H H' ∧ ∃ S : Nat → Bool, H' D = some (.lst (((List.range i).filter S).map fun i : Nat => V.int i))) ⟨S3.same (Same.upd' nD), Kp.mut e3 nDH, fun _ => false, upd_same⟩ ?_ ?_
    · rintro i H' hi ⟨S', e, B, hB⟩
      refine ⟨rfl, ?_⟩
      refine ⟨_, rfl, _, rfl, st, c, wide, rfl, S', w0, by omega, fun d H4 d0 d1 S4 e4 => ?_⟩
      refine ⟨rfl, _, rfl, rfl, rfl, _, rfl, ?_⟩
      have hDs := (S3.of_new nD).1
      have hDc := (S3.of_new nD).2
      have hB4 := e4 _ _ hDs hB
      have z : (0 : Int) + (i : Int) = (i : Int) := by omega
      refine ite2 (fun _ => ?_) (fun _ => ?_)
      · refine ⟨_, rfl, _, hB4, small1000 (by simp; exact Nat.le_trans (List.length_filter_le _ _) (by simp; omega)), S4.mut hDs hDc, Kp.mut (e.trans e4) nDH, fun j => if j = i then true else B j, ?_⟩
        rw [upd_same, List.range_succ, List.filter_append, List.map_append]
        have e5 : (List.range i).filter (fun j => if j = i then true else B j) = (List.range i).filter B := List.filter_congr fun j hj => by
          have : j ≠ i := by have := List.mem_range.mp hj; omega
          simp [this]
        rw [e5]
        simp
      · refine ⟨S4, e.trans e4, fun j => if j = i then false else B j, ?_⟩
        rw [hB4, List.range_succ, List.filter_append]
        have e5 : (List.range i).filter (fun j => if j = i then false else B j) = (List.range i).filter B := List.filter_congr fun j hj => by
          have : j ≠ i := by have := List.mem_range.mp hj; omega
          simp [this]
        rw [e5]
        simp
    · rintro H' ⟨S', e, B, hB⟩
      exact k D B H' nDH S' e (by simpa using hB)
end
end Lm

namespace Lm
open PySem L2
section
variable {P : Program} {w : World} {K : PySem.W.Frag} {mg : Str → Option Value} {base : Heap} {f : Addr} {fd : FuncData}
abbrev c_LETTERS : V := .str "abcdefghijklmnopqrstuvwxyz"
abbrev c_LONGEST_WORD : V := .int 8
/-- the module's constants -/
structure Cst (mg : Str → Option Value) (tL tW : Tok) : Prop where
  g_LETTERS : mg "LETTERS" = some (.str "abcdefghijklmnopqrstuvwxyz" tL)
  g_LONGEST_WORD : mg "LONGEST_WORD" = some (.int 8 tW)
def SeqAt (H : Hp) (a : Addr) (xs : List V) : Prop := H a = some (.lst xs) ∨ H a = some (.tup xs)
/-- is_number: of an int -/
def spIsNum : Sp := fun vs H Q _ => ∃ i : Int, vs = [.int i] ∧ Q (.bl true) H
abbrev s_is_number : Stmt := top 4
theorem sc_is_number : FnScope ["x"] ["x"] (defScope s_is_number) := ⟨rfl, rfl, rfl, by decide +kernel, rfl, by decide +kernel, by decide +kernel⟩
theorem ok_is_number (F : Fun K "is_number" "is_number" s_is_number f fd) (T : Blt mg) : FnOk P w K mg base CX0 1 f fd ["x"] spIsNum := by
  refine F.ok sc_is_number (fun vs H Q E h => ?_) (fun cdv A outer s H vs Q E hr h => ?_)
  · obtain ⟨i, rfl, _⟩ := h
    rfl
  · obtain ⟨i, rfl, k⟩ := h
    refine ⟨_, (pss_one (ps_ret (pe_and (pe_callB call_isi (by rfl) T.b_isinstance (by decide +kernel) (pa_cons (pv 0) (pa_cons (pe_bltn (v := .ty "int") (u := .type "int") (by rfl) T.b_int (by decide +kernel) rfl) pa_nil))) (pe_one (pe_not (pe_callB call_isi (by rfl) T.b_isinstance (by decide +kernel) (pa_cons (pv 0) (pa_cons (pe_bltn (v := .ty "bool") (u := .type "bool") (by rfl) T.b_bool (by decide +kernel) rfl) pa_nil)))))))), ?_⟩
    refine ⟨_, rfl, _, _, _, _, true, rfl, .ty _, .base (.int i), kit_ty (by decide +kernel), true, rfl, iteT ?_⟩
    exact ⟨_, rfl, _, _, _, _, false, rfl, .ty _, .base (.int i), kit_ty (by decide +kernel), false, rfl, k⟩
def spUpTo : Sp := fun vs H Q _ => ∃ i n : Int, vs = [.int i, .int n] ∧ Q (.bl (decide (0 ≤ i ∧ i ≤ n))) H
abbrev s_is_up_to : Stmt := top 5
theorem sc_is_up_to : FnScope ["x", "most"] ["x", "most"] (defScope s_is_up_to) := ⟨rfl, rfl, rfl, by decide +kernel, rfl, by decide +kernel, by decide +kernel⟩
theorem ok_is_up_to {fN : Addr} {fdN : FuncData} (F : Fun K "is_up_to" "is_up_to" s_is_up_to f fd) (T : Blt mg) (D_is_number : DefOk P w K mg base 1 "is_number" fN fdN ["x"] spIsNum) : FnOk P w K mg base CX0 2 f fd ["x", "most"] spUpTo := by
  refine F.ok sc_is_up_to (fun vs H Q E h => ?_) (fun cdv A outer s H vs Q E hr h => ?_)
  · obtain ⟨i, n, rfl, _⟩ := h
    rfl
  · obtain ⟨i, n, rfl, k⟩ := h
    refine ⟨_, (pss_one (ps_ret (pe_and (pe_d D_is_number (hr.mono (by decide)) (pa_cons (pv 0) pa_nil)) (pe_one (pe_chain op_le op_le pe_int (pv 0) (pv 1)))))), ?_⟩
    refine ⟨_, rfl, i, rfl, true, rfl, iteT ?_⟩
    refine ⟨_, rfl, _, _, rfl, rfl, _, rfl, ite2 (fun h0 => ?_) (fun h0 => ?_)⟩
    · have h0 := of_decide_eq_true h0
      refine ⟨_, rfl, _, _, rfl, rfl, ?_⟩
      have e : decide (i ≤ n) = decide (0 ≤ i ∧ i ≤ n) := by simp [h0]
      have q : Q (.bl (decide (i ≤ n))) H := by rw [e]; exact k
      exact q
    · have h0 : ¬ (0 ≤ i) := fun z => h0 (decide_eq_true z)
      have e : decide (0 ≤ i ∧ i ≤ n) = false := by simp [h0]
      rw [e] at k; exact k
def spIsRow : Sp := fun vs H Q _ => ∃ a xs, vs = [.ref a] ∧ SeqAt H a xs ∧ ∀ H', Same H H' → Q (.bl true) H'
abbrev s_is_row : Stmt := top 6
theorem sc_is_row : FnScope ["x"] ["x"] (defScope s_is_row) := ⟨rfl, rfl, rfl, by decide +kernel, rfl, by decide +kernel, by decide +kernel⟩
theorem ok_is_row (F : Fun K "is_row" "is_row" s_is_row f fd) (T : Blt mg) : FnOk P w K mg base CX0 1 f fd ["x"] spIsRow := by
  refine F.ok sc_is_row (fun vs H Q E h => ?_) (fun cdv A outer s H vs Q E hr h => ?_)
  · obtain ⟨a, xs, rfl, _⟩ := h
    rfl
  · obtain ⟨a, xs, rfl, hq, k⟩ := h
    refine ⟨_, (pss_one (ps_ret (pe_callB call_isiT (by rfl) T.b_isinstance (by decide +kernel) (pa_cons (pv 0) (pa_cons (pe_tup (pa_cons (pe_bltn (v := .ty "list") (u := .type "list") (by rfl) T.b_list (by decide +kernel) rfl) (pa_cons (pe_bltn (v := .ty "tuple") (u := .type "tuple") (by rfl) T.b_tuple (by decide +kernel) rfl) pa_nil))) pa_nil))))), ?_⟩
    refine ⟨_, rfl, by show 2 ≤ sizeLine; decide, fun p np => ?_⟩
    rcases hq with hq | hq
    · exact ⟨_, _, _, _, _, true, rfl, upd_same, .cons (.ty _) (.cons (.ty _) .nil), .base (.lst (by rw [upd_ne (ne_of_none hq np)]; exact hq)), kitAny_cons (b := true) (kit_ty (by decide +kernel)) (fun z => nomatch z) (fun _ => rfl), k _ (Same.upd' np)⟩
    · exact ⟨_, _, _, _, _, true, rfl, upd_same, .cons (.ty _) (.cons (.ty _) .nil), .base (.tup (by rw [upd_ne (ne_of_none hq np)]; exact hq)), kitAny_cons (b := false) (kit_ty (by decide +kernel)) (fun _ => kitAny_cons (b := true) (kit_ty (by decide +kernel)) (fun z => nomatch z) (fun _ => rfl)) (fun z => nomatch z), k _ (Same.upd' np)⟩
theorem isW_sign (c : Nat) : decide (c ∈ ("abcdefghijklmnopqrstuvwxyz" : Str).cps.toList) = (decide (97 ≤ c) && decide (c ≤ 122)) := by
  have e : ("abcdefghijklmnopqrstuvwxyz" : Str).cps.toList = List.range' 97 26 := by decide +kernel
  rw [e]
  simp only [List.mem_range'_1]
  by_cases h1 : 97 ≤ c <;> by_cases h2 : c ≤ 122 <;> simp [h1, h2] <;> omega
def spIsWord : Sp := fun vs H Q _ => ∃ x : Str, vs = [.str x] ∧ x.cps.size ≤ 1000 ∧ ∀ H', Same H H' → Q (.bl (isW x)) H'
abbrev s_is_word : Stmt := top 7
theorem sc_is_word : FnScope ["x", "sign"] ["x"] (defScope s_is_word) := ⟨rfl, rfl, rfl, by decide +kernel, rfl, by decide +kernel, by decide +kernel⟩
theorem ok_is_word (F : Fun K "is_word" "is_word" s_is_word f fd) (T : Blt mg) {tL tW : Tok} (T' : Cst mg tL tW) : FnOk P w K mg base CX0 1 f fd ["x"] spIsWord := by
  refine F.ok sc_is_word (fun vs H Q E h => ?_) (fun cdv A outer s H vs Q E hr h => ?_)
  · obtain ⟨x, rfl, _⟩ := h
    rfl
  · obtain ⟨x, rfl, hx, k⟩ := h
    refine ⟨_, (pss_cons (ps_if (pt_not (pt_val (pe_callB call_isi (by rfl) T.b_isinstance (by decide +kernel) (pa_cons (pv 0) (pa_cons (pe_bltn (v := .ty "str") (u := .type "str") (by rfl) T.b_str (by decide +kernel) rfl) pa_nil))))) (pss_one (ps_ret pe_bl)) pss_nil)
        (pss_one (ps_ret (pe_and (pe_chain op_le op_le pe_int (pe_callB call_len_str (by rfl) T.b_len PySem.boot_len (pa_cons (pv 0) pa_nil)) (pe_glob (v := c_LONGEST_WORD) rfl T'.g_LONGEST_WORD ⟨_, rfl⟩)) (pe_one (pe_callB (cr_all rfl) (by rfl) T.b_all (by decide +kernel) (by exact (pa_cons (pe_lc (own := [("sign", 1)]) (g := gName 1) (tt := tYes)/- R cmp -/ rfl sc_is_word.nd (pi_str (pv 0)) (blkOk_by (own := [("sign", 1)]) (by kernel_rfl)) (fun _ _ _ _ _ => (pg_name (i := 1) sc_is_word.nd rfl (by first | exact Or.inl rfl | exact Or.inr rfl))) (fun _ _ _ _ _ => pts_nil) (fun _ _ _ _ _ => by exact (pe_cmpR op_in_sign (pv 1) (pe_glob (v := c_LETTERS) rfl T'.g_LETTERS ⟨_, rfl⟩) rfl))) pa_nil)))))))), ?_⟩
    refine ⟨_, rfl, _, _, _, _, true, rfl, .ty _, .base (.str x), kit_ty (by decide +kernel), true, rfl, ?_⟩
    have hx' : x.length ≤ sizeLine := Nat.le_of_lt (small1000 hx)
    have hl : x.length = x.cps.size := rfl
    refine ⟨_, rfl, _, rfl, hx', _, _, rfl, rfl, _, rfl, ite2 (fun h0 => ?_) (fun h0 => ?_)⟩
    · have h0 : 1 ≤ x.cps.size := by have := of_decide_eq_true h0; omega
      refine ⟨_, _, rfl, rfl, _, rfl, ite2 (fun h1 => ?_) (fun h1 => ?_)⟩
      · have h1 : x.cps.size ≤ 8 := by have := of_decide_eq_true h1; omega
        refine ⟨_, rfl, x, rfl, fun D nD => lc_it walk_str (fun j H' => Same H H' ∧ H' D = some (.lst (((x.cps.toList.take j).map fun c => decide (97 ≤ c) && decide (c ≤ 122)).map V.bl))) ⟨Same.upd' nD, upd_same⟩ (fun _ _ _ _ => True.intro) ?_ ?_⟩
        · rintro j y H' H'' hj ⟨e, hD⟩ ⟨rfl, c, hc, rfl⟩
          refine ⟨rfl, _, rfl, _, _, rfl, rfl, _, hD, small1000 (by simp; omega), Same.mut e nD, ?_⟩
          have hc' : x.cps.toList[j]? = some c := by simpa using hc
          rw [upd_same, List.take_succ, hc', isW_sign]
          simp
        · rintro H' ⟨e, hD⟩
          refine ⟨_, _, rfl, SqL.of hD, ?_⟩
          have e2 : (((x.cps.toList.take x.cps.size).map fun c => decide (97 ≤ c) && decide (c ≤ 122)).all id) = isW x := by
            unfold isW
            rw [show x.cps.size = x.cps.toList.length from by simp, List.take_length]
            simp [h0, h1]
          have q := k H' e
          rw [← e2] at q
          exact q
      · have h1 : ¬ x.cps.size ≤ 8 := fun z => h1 (decide_eq_true (by show (x.length : Int) ≤ 8; omega))
        have e2 : isW x = false := by unfold isW; simp [h1]
        have q := k H (Same.refl H)
        rw [e2] at q
        exact q
    · have h0 : ¬ 1 ≤ x.cps.size := fun z => h0 (decide_eq_true (by show (1 : Int) ≤ x.length; omega))
      have e2 : isW x = false := by unfold isW; simp [h0]
      have q := k H (Same.refl H)
      rw [e2] at q
      exact ⟨false, rfl, q⟩
end
end Lm

namespace Lm
open PySem L2
/-! ### a work as it stands in the heap -/
theorem n_nw : ¬ (("name" : Str) = "words") := by decide +kernel
theorem n_ne : ¬ (("name" : Str) = "ends") := by decide +kernel
theorem n_we : ¬ (("words" : Str) = "ends") := by decide +kernel
def wkF (nm : Str) (t d : Addr) : List (Str × V) := [("name", .str nm), ("words", .ref t), ("ends", .ref d)]
theorem wk_name (nm : Str) (t d : Addr) : (wkF nm t d).lookup ("name" : Str) = some (.str nm) := by simp [wkF, List.lookup]
theorem wk_words (nm : Str) (t d : Addr) : (wkF nm t d).lookup ("words" : Str) = some (.ref t) := by
  have e : (("words" : Str) == "name") = false := by decide +kernel
  simp [wkF, List.lookup, e]
theorem wk_ends (nm : Str) (t d : Addr) : (wkF nm t d).lookup ("ends" : Str) = some (.ref d) := by
  have e : (("ends" : Str) == "name") = false := by decide +kernel
  have e2 : (("ends" : Str) == "words") = false := by decide +kernel
  simp [wkF, List.lookup, e, e2]
theorem wk_no (nm : Str) (t d : Addr) {m : Str} (h1 : (m == "name") = false) (h2 : (m == "words") = false) (h3 : (m == "ends") = false) : (wkF nm t d).lookup m = none := by simp [wkF, List.lookup, h1, h2, h3]
theorem wk_put (nm : Str) (t d : Addr) : putF "ends" (.ref d) (putF "words" (.ref t) (putF "name" (.str nm) [])) = wkF nm t d := by
  simp [putF, wkF, n_nw, n_ne, n_we]
theorem wk_l1 (nm : Str) : (putF "name" (.str nm) []).length < 1000 := by simp [putF]
theorem wk_l2 (nm : Str) (t : Addr) : (putF "words" (.ref t) (putF "name" (.str nm) [])).length < 1000 := by simp [putF, n_nw]
/-- the cuts behind the words -/
def endsL : Nat → List Str → List (Key × V)
  | _, [] => []
  | n, x :: r => (Sum.inr x, V.int ((n : Int) + 1)) :: endsL (n + 1) r
theorem endsL_len : ∀ n ws, (endsL n ws).length = ws.length
  | _, [] => rfl
  | n, x :: r => by show (endsL (n + 1) r).length + 1 = r.length + 1; rw [endsL_len]
theorem endsL_app : ∀ n ws x, endsL n (ws ++ [x]) = endsL n ws ++ [(Sum.inr x, V.int ((n : Int) + (ws.length : Int) + 1))]
  | n, [], x => by simp [endsL]
  | n, y :: r, x => by
    show _ :: endsL (n + 1) (r ++ [x]) = _ :: (endsL (n + 1) r ++ _)
    rw [endsL_app (n + 1) r x]
    congr 4
    simp only [List.length_cons]
    congr 1
    omega
theorem endsL_no : ∀ n ws (x : Str), x ∉ ws → valV (endsL n ws) (Sum.inr x : Key) = none
  | _, [], _, _ => rfl
  | n, y :: r, x, h => by
    have h1 : ¬ ((Sum.inr y : Key) = Sum.inr x) := fun e => h (by rw [← Sum.inr.inj e]; exact List.mem_cons_self)
    unfold endsL
    rw [valV_neg h1]
    exact endsL_no (n + 1) r x fun z => h (List.mem_cons_of_mem _ z)
theorem endsL_at : ∀ n ws (i : Nat) (x : Str), ws.Nodup → ws[i]? = some x → valV (endsL n ws) (Sum.inr x : Key) = some (V.int ((n : Int) + (i : Int) + 1))
  | _, [], i, _, _, h => by simp at h
  | n, y :: r, 0, x, _, h => by
    have e : y = x := Option.some.inj h
    subst e
    unfold endsL
    rw [valV_pos rfl]
    simp
  | n, y :: r, i + 1, x, nd, h => by
    have hx : r[i]? = some x := h
    have ne : ¬ ((Sum.inr y : Key) = Sum.inr x) := fun e => (List.nodup_cons.mp nd).1 (by rw [Sum.inr.inj e]; exact List.mem_of_getElem? hx)
    unfold endsL
    rw [valV_neg ne, endsL_at (n + 1) r i x (List.nodup_cons.mp nd).2 hx]
    congr 2
    omega
/-- the work of the name nm and the words ws, at a -/
structure WkAt (C : Addr) (H : Hp) (a : Addr) (nm : Str) (ws : List Str) : Prop where
  ob : ∃ dx t d, H a = some (.ins C dx (wkF nm t d)) ∧ H t = some (.tup (ws.map V.str)) ∧ H d = some (.dK (endsL 0 ws))
theorem WkAt.same {C : Addr} {H H' : Hp} {a : Addr} {nm : Str} {ws : List Str} (k : WkAt C H a nm ws) (e : Same H H') : WkAt C H' a nm ws := by
  obtain ⟨⟨dx, t, d, h1, h2, h3⟩⟩ := k
  exact ⟨⟨dx, t, d, e _ _ h1, e _ _ h2, e _ _ h3⟩⟩
/-- what stands at st changes, a list -/
theorem WkAt.kp {C st : Addr} {H H' : Hp} {a : Addr} {nm : Str} {ws : List Str} {xs : List V} (k : WkAt C H a nm ws) (e : Kp st H H') (hs : H st = some (.lst xs)) : WkAt C H' a nm ws := by
  obtain ⟨⟨dx, t, d, h1, h2, h3⟩⟩ := k
  exact ⟨⟨dx, t, d, e _ _ (ne_of h1 hs (by intro z; cases z)) h1, e _ _ (ne_of h2 hs (by intro z; cases z)) h2, e _ _ (ne_of h3 hs (by intro z; cases z)) h3⟩⟩
/-- for i, x in enumerate(a), a list or a tuple that stands still -/
theorem for_enumA {K : PySem.W.Frag} {a : Addr} {xs : List V} {g : TG} {tb : TS} {D : Ends} {σ : St} {H : Hp} (hq : SeqAt H a xs) (Pv : Nat → St → Hp → Prop) (h0 : Pv 0 σ H) (hG : ∀ i σ' H', i ≤ xs.length → Pv i σ' H' → ∀ o, H a = some o → H' a = some o)
    (hs : ∀ i x σ H H', i < xs.length → Pv i σ H → YPair (fun i => some (.int (i : Nat))) (fun i => xs[i]?) i H x H' → g x σ H' fun σ2 H2 => tb { D with nx := Pv (i + 1), ct := Pv (i + 1), bk := D.nx } σ2 H2) (hd : ∀ σ H, Pv xs.length σ H → D.nx σ H) :
    ∃ a' xs', [V.ref a] = [V.ref a'] ∧ ((SqL K H a' xs' ∧ ∃ W : Nat → Nat → St → Hp → Prop, (∃ m, W 0 m σ H) ∧ ∀ i m σ H, W i m σ H →
      ((Ite K a').stop i H ∧ D.nx σ H) ∨ ((Ite K a').go i H ∧ ∃ N : St → Hp → Prop, (∀ σ' H', N σ' H' → ∃ m', m' < m ∧ W (i + 1) m' σ' H') ∧ ∀ x H', (Ite K a').yld i H x H' → g x σ H' fun σ2 H2 => tb { D with nx := N, ct := N, bk := D.nx } σ2 H2)) ∨
      (SqT K H a' xs' ∧ ∃ W : Nat → Nat → St → Hp → Prop, (∃ m, W 0 m σ H) ∧ ∀ i m σ H, W i m σ H →
      ((IteT K a').stop i H ∧ D.nx σ H) ∨ ((IteT K a').go i H ∧ ∃ N : St → Hp → Prop, (∀ σ' H', N σ' H' → ∃ m', m' < m ∧ W (i + 1) m' σ' H') ∧ ∀ x H', (IteT K a').yld i H x H' → g x σ H' fun σ2 H2 => tb { D with nx := N, ct := N, bk := D.nx } σ2 H2))) := by
  rcases hq with hq | hq
  · exact ⟨a, xs, rfl, .inl ⟨SqL.of hq, for_it walk_enum Pv h0 (fun i σ' H' hi p => SqL.of (hG i σ' H' hi p _ hq)) hs hd⟩⟩
  · exact ⟨a, xs, rfl, .inr ⟨SqT.of hq, for_it walk_enumT Pv h0 (fun i σ' H' hi p => SqT.of (hG i σ' H' hi p _ hq)) hs hd⟩⟩
section
variable {P : Program} {w : World} {K : PySem.W.Frag} {mg : Str → Option Value} {base : Heap} {f : Addr} {fd : FuncData}
/-- what the walk asks of the class Work -/
structure WkTxt (K : PySem.W.Frag) (C : Addr) : Prop where
  cl : Cls K C
  nN : NoAttr K C "name"
  nW : NoAttr K C "words"
  nE : NoAttr K C "ends"
def spWkInit (C : Addr) : Sp := fun vs H Q _ => ∃ (p dx a : Addr) (nm : Str) (ws : List Str), vs = [.ref p, .str nm, .ref a] ∧ H p = some (.ins C dx []) ∧ SeqAt H a (ws.map V.str) ∧ isW nm = true ∧ Wds ws ws.length ∧ 0 < ws.length ∧ ws.length ≤ 60 ∧
  ∀ H', WkAt C H' p nm ws → Kp p H H' → Q .non H'
abbrev s_Work_init : Stmt := inClass (top 17) 0
theorem sc_Work_init : FnScope ["self", "name", "passages", "ends", "index", "word"] ["self", "name", "passages"] (defScope s_Work_init) := ⟨rfl, rfl, rfl, by decide +kernel, rfl, by decide +kernel, by decide +kernel⟩
theorem isW_size {x : Str} (h : isW x = true) : x.cps.size ≤ 1000 := by
  unfold isW at h
  simp at h
  omega
theorem ok_wk_init {C fI fR : Addr} {fdI fdR : FuncData} (F : Fun K "__init__" "Work.__init__" s_Work_init f fd) (T : Blt mg) (W : WkTxt K C) (D_is_word : DefOk P w K mg base 1 "is_word" fI fdI ["x"] spIsWord) (D_is_row : DefOk P w K mg base 1 "is_row" fR fdR ["x"] spIsRow) :
    FnOk P w K mg base CX0 2 f fd ["self", "name", "passages"] (spWkInit C) := by
  refine F.ok sc_Work_init (fun vs H Q E h => ?_) (fun cdv A outer s H vs Q E hr h => ?_)
  · obtain ⟨p, dx, a, nm, ws, rfl, _⟩ := h
    rfl
  · obtain ⟨p, dx, a, nm, ws, rfl, hp, hq, hnm, hw, l0, l1, k⟩ := h
    have hu := hu_of hr
    have hap : a ≠ p := by
      rcases hq with hq | hq
      · exact ne_of hq hp (by intro z; cases z)
      · exact ne_of hq hp (by intro z; cases z)
    refine ⟨_, (pss_cons (ps_if (pt_not (pt_val (pe_d D_is_word (hr.mono (by decide)) (pa_cons (pv 1) pa_nil)))) (pss_one ps_never) pss_nil)
        (pss_cons (ps_if (PW.pt (pw_or (pt_not (pt_val (pe_d D_is_row (hr.mono (by decide)) (pa_cons (pv 2) pa_nil)))) (pw_or1 (pt_cmpR op_eq (pe_callB call_len_seq (by rfl) T.b_len PySem.boot_len (pa_cons (pv 2) pa_nil)) pe_int (nomark _))))) (pss_one ps_never) pss_nil)
        (pss_cons (ps_set (i := 3) sc_Work_init.nd rfl (by first | exact Or.inl rfl | exact Or.inr rfl) pe_dnewK)
        (pss_cons (ps_for PassesOwn.never rfl (pi_enumA rfl T.b_enumerate (pa_cons (pv 2) pa_nil)) (pg_tup rfl (pgs_cons (pg_name (i := 4) sc_Work_init.nd rfl (by first | exact Or.inl rfl | exact Or.inr rfl)) (pgs_cons (pg_name (i := 5) sc_Work_init.nd rfl (by first | exact Or.inl rfl | exact Or.inr rfl)) pgs_nil))) (pss_cons (ps_if (PW.pt (pw_or (pt_not (pt_val (pe_d D_is_word (hr.mono (by decide)) (pa_cons (pv 5) pa_nil)))) (pw_or1 (pt_cmp (pc_din hu (pv 5) (pv 3)))))) (pss_one ps_never) pss_nil)
        (pss_one (ps_dput hu (pv 3) (pv 5) (pe_op op_add (pv 4) pe_int) rfl))))
        (pss_cons (ps_fld (pv 0) (pv 1) rfl)
        (pss_cons (ps_fld (pv 0) (pe_callTy call_tuple_of (by rfl) T.b_tuple (by decide +kernel) (pa_cons (pv 2) pa_nil)) rfl)
        (pss_one (ps_fld (pv 0) (pv 3) rfl)))))))), ?_⟩
    refine ⟨_, rfl, nm, rfl, isW_size hnm, fun H1 e1 => ⟨_, rfl, ?_⟩⟩
    rw [hnm]
    have hq1 : SeqAt H1 a (ws.map V.str) := hq.elim (fun h => .inl (e1 _ _ h)) fun h => .inr (e1 _ _ h)
    refine ⟨_, rfl, a, _, rfl, hq1, fun H2 e2 => ⟨_, rfl, ?_⟩⟩
    have hq2 : SeqAt H2 a (ws.map V.str) := hq1.elim (fun h => .inl (e2 _ _ h)) fun h => .inr (e2 _ _ h)
    have hl : ¬ (V.int ((ws.map V.str).length : Int) = V.int 0) := by
      intro z
      have : ((ws.map V.str).length : Int) = 0 := V.int.inj z
      rw [List.length_map] at this
      omega
    refine ⟨_, rfl, _, _, rfl, (hq2.elim (fun h => .inl (SqL.of h)) fun h => .inr (SqT.of h)), rfl, _, rfl, ?_⟩
    rw [decide_eq_false hl]
    intro d nd
    have hq3 : SeqAt (upd H2 d (.dK [])) a (ws.map V.str) := hq2.elim (fun h => .inl (Same.upd' nd _ _ h)) fun h => .inr (Same.upd' nd _ _ h)
    have eH : Same H (upd H2 d (.dK [])) := (e1.trans e2).trans (Same.upd' nd)
    have ndH : H d = none := (e1.trans e2).free nd
    have hdp : d ≠ p := (ne_of_none hp ndH).symm
    refine ⟨_, rfl, for_enumA hq3 (fun i σ' H' => ∃ u v : Option V, σ' = [some (.ref p), some (.str nm), some (.ref a), some (.ref d), u, v] ∧ H' d = some (.dK (endsL 0 (ws.take i))) ∧ ∀ b o, H b = some o → H' b = some o)
      ⟨none, none, rfl, upd_same, eH⟩ ?_ ?_ ?_⟩
    · rintro i σ' H' _ ⟨u, v, rfl, gd, e⟩ o ho
      rcases hq with hq | hq
      · rw [eH _ _ hq] at ho
        rw [← ho]; exact e _ _ hq
      · rw [eH _ _ hq] at ho
        rw [← ho]; exact e _ _ hq
    · rintro i y σ' H' H'' hi ⟨u, v, rfl, gd, e⟩ ⟨T', x1, x2, rfl, nT, rfl, hx1, hx2⟩
      cases (Option.some.inj hx1)
      have hx2 : (List.map V.str ws)[i]? = some x2 := hx2
      rw [List.getElem?_map] at hx2
      obtain ⟨x, hx, rfl⟩ : ∃ x, ws[i]? = some x ∧ V.str x = x2 := by
        cases q : ws[i]? with
        | none => rw [q] at hx2; cases hx2
        | some x => rw [q] at hx2; exact ⟨x, rfl, Option.some.inj hx2⟩
      have hTd : T' ≠ d := (ne_of_none gd nT).symm
      have gd2 : (upd H' T' (.tup [.int (i : Nat), .str x])) d = some (.dK (endsL 0 (ws.take i))) := by rw [upd_ne hTd.symm]; exact gd
      have hwx : isW x = true := hw.wd x (List.mem_of_getElem? hx)
      have hno : x ∉ ws.take i := fun z => by
        obtain ⟨j, hj, e⟩ := List.mem_iff_getElem.mp z
        rw [List.getElem_take] at e
        have hj' : j < i := by rw [List.length_take] at hj; omega
        have := nd_ix hw.nd (i := j) (j := i) (x := x) (by rw [List.getElem?_eq_getElem (by rw [List.length_take] at hj; omega), e]) hx
        omega
      refine ⟨T', _, rfl, SqT.of upd_same, rfl, _, _, rfl, _, _, rfl, rfl, ?_⟩
      refine ⟨_, rfl, x, rfl, isW_size hwx, fun H3 e3 => ⟨_, rfl, ?_⟩⟩
      rw [hwx]
      have gd3 := e3 _ _ gd2
      refine ⟨_, rfl, _, rfl, d, _, rfl, DGet.k (k := Sum.inr x) gd3, ?_⟩
      rw [endsL_no 0 _ x hno]
      refine ⟨_, rfl, ?_⟩
      refine ⟨_, rfl, _, _, rfl, rfl, _, rfl, _, rfl, d, _, rfl, DPut.k (k := Sum.inr x) gd3 (small1000 (by rw [endsL_len, List.length_take]; omega)), ?_⟩
      refine ⟨_, _, rfl, ?_, ?_⟩
      · rw [upd_same, putK_new _ (endsL_no 0 _ x hno), List.take_succ, hx, Option.toList_some, endsL_app]
        rw [List.length_take, Nat.min_eq_left (by have := (List.getElem?_eq_some_iff.mp hx).1; omega)]
        simp
      · intro b o hb
        have hbd : b ≠ d := ne_of_none hb ndH
        rw [upd_ne hbd]
        exact e3 _ _ (Same.upd' nT _ _ (e _ _ hb))
    · rintro σ' H' ⟨u, v, rfl, gd, e⟩
      rw [List.length_map, List.take_length] at gd
      have hpd : p ≠ d := hdp.symm
      -- behind the words, which lie at t
      have fin : ∀ (t : Addr) (H3 : Hp), H3 p = some (.ins C dx (putF "name" (.str nm) [])) → H3 t = some (.tup (ws.map V.str)) → H3 d = some (.dK (endsL 0 ws)) → Kp p H H3 → t ≠ p → Q .non
          (upd (upd H3 p (.ins C dx (putF "words" (.ref t) (putF "name" (.str nm) [])))) p (.ins C dx (putF "ends" (.ref d) (putF "words" (.ref t) (putF "name" (.str nm) []))))) := by
        intro t H3 g1 g2 g3 g4 htp
        refine k _ ⟨⟨dx, t, d, by rw [upd_same, wk_put], by rw [upd_ne htp, upd_ne htp]; exact g2, by rw [upd_ne hdp, upd_ne hdp]; exact g3⟩⟩ ((g4.trans (Kp.upd _ _ _)).trans (Kp.upd _ _ _))
      refine ⟨_, rfl, _, rfl, p, C, dx, _, rfl, e _ _ hp, W.cl, W.nN, by decide, ?_⟩
      have kp3 : Kp p H (upd H' p (.ins C dx (putF "name" (.str nm) []))) := (Kp.of e).trans (Kp.upd _ _ _)
      rcases hq with hq | hq
      · refine ⟨_, rfl, a, _, rfl, .inl ⟨SqL.of (kp3 _ _ hap hq), fun t nt => ?_⟩⟩
        have htp : t ≠ p := (ne_of_none upd_same nt).symm
        have htd : t ≠ d := (ne_of_none (by rw [upd_ne hdp]; exact gd) nt).symm
        have g1 : (upd (upd H' p (.ins C dx (putF "name" (.str nm) []))) t (.tup (ws.map V.str))) p = some (.ins C dx (putF "name" (.str nm) [])) := by rw [upd_ne htp.symm, upd_same]
        refine ⟨_, rfl, p, C, dx, _, rfl, g1, W.cl, W.nW, wk_l1 _, ?_⟩
        refine ⟨_, rfl, _, rfl, p, C, dx, _, rfl, upd_same, W.cl, W.nE, wk_l2 _ _, ?_⟩
        exact fin t _ g1 upd_same (by rw [upd_ne htd.symm, upd_ne hdp]; exact gd) (kp3.trans (Kp.of (Same.upd' nt))) htp
      · refine ⟨_, rfl, a, _, rfl, .inr ⟨SqT.of (kp3 _ _ hap hq), ?_⟩⟩
        refine ⟨_, rfl, p, C, dx, _, rfl, upd_same, W.cl, W.nW, wk_l1 _, ?_⟩
        refine ⟨_, rfl, _, rfl, p, C, dx, _, rfl, upd_same, W.cl, W.nE, wk_l2 _ _, ?_⟩
        exact fin a _ upd_same (kp3 _ _ hap hq) (by rw [upd_ne hdp]; exact gd) kp3 hap
end
end Lm

namespace Lm
open PySem L2
theorem valV_mem {ws : List Str} (nd : ws.Nodup) (x : Str) : (valV (endsL 0 ws) (Sum.inr x : Key)).isSome = decide (x ∈ ws) := by
  by_cases h : x ∈ ws
  · obtain ⟨i, hi, e⟩ := List.mem_iff_getElem.mp h
    rw [endsL_at 0 ws i x nd (by rw [List.getElem?_eq_getElem hi, e]), decide_eq_true h]
    rfl
  · rw [endsL_no 0 ws x h, decide_eq_false h]
    rfl
section
variable {P : Program} {w : World} {K : PySem.W.Frag} {mg : Str → Option Value} {base : Heap} {f : Addr} {fd : FuncData}
def spWkLen (C : Addr) : Sp := fun vs H Q _ => ∃ (a : Addr) (nm : Str) (ws : List Str), vs = [.ref a] ∧ WkAt C H a nm ws ∧ Q (.int ws.length) H
abbrev s_Work_len : Stmt := inClass (top 17) 4
theorem sc_Work_len : FnScope ["self"] ["self"] (defScope s_Work_len) := ⟨rfl, rfl, rfl, by decide +kernel, rfl, by decide +kernel, by decide +kernel⟩
theorem ok_wk_len {C : Addr} (F : Fun K "__len__" "Work.__len__" s_Work_len f fd) (T : Blt mg) (W : WkTxt K C) : FnOk P w K mg base CX0 1 f fd ["self"] (spWkLen C) := by
  refine F.ok sc_Work_len (fun vs H Q E h => ?_) (fun cdv A outer s H vs Q E hr h => ?_)
  · obtain ⟨a, nm, ws, rfl, _⟩ := h
    rfl
  · obtain ⟨a, nm, ws, rfl, ⟨dx, t, d, h1, h2, h3⟩, k⟩ := h
    refine ⟨_, (pss_one (ps_ret (pe_callB call_len_seq (by rfl) T.b_len PySem.boot_len (pa_cons (pe_fld (pv 0) rfl) pa_nil)))), ?_⟩
    refine ⟨_, rfl, a, C, dx, _, _, rfl, h1, W.cl, W.nW, wk_words _ _ _, t, _, rfl, .inr (SqT.of h2), ?_⟩
    rw [List.length_map]
    exact k
def spWkIn (C : Addr) : Sp := fun vs H Q _ => ∃ (a : Addr) (x nm : Str) (ws : List Str), vs = [.ref a, .str x] ∧ WkAt C H a nm ws ∧ ws.Nodup ∧ Q (.bl (decide (x ∈ ws))) H
abbrev s_Work_contains : Stmt := inClass (top 17) 5
theorem sc_Work_contains : FnScope ["self", "x"] ["self", "x"] (defScope s_Work_contains) := ⟨rfl, rfl, rfl, by decide +kernel, rfl, by decide +kernel, by decide +kernel⟩
theorem ok_wk_in {C : Addr} (F : Fun K "__contains__" "Work.__contains__" s_Work_contains f fd) (T : Blt mg) (W : WkTxt K C) : FnOk P w K mg base CX0 1 f fd ["self", "x"] (spWkIn C) := by
  refine F.ok sc_Work_contains (fun vs H Q E h => ?_) (fun cdv A outer s H vs Q E hr h => ?_)
  · obtain ⟨a, x, nm, ws, rfl, _⟩ := h
    rfl
  · obtain ⟨a, x, nm, ws, rfl, ⟨dx, t, d, h1, h2, h3⟩, nd, k⟩ := h
    have hu := hu_of hr
    refine ⟨_, (pss_one (ps_ret (pe_and (pe_callB call_isi (by rfl) T.b_isinstance (by decide +kernel) (pa_cons (pv 1) (pa_cons (pe_bltn (v := .ty "str") (u := .type "str") (by rfl) T.b_str (by decide +kernel) rfl) pa_nil))) (pe_one (pe_cmp (pc_din hu (pv 1) (pe_fld (pv 0) rfl)) rfl))))), ?_⟩
    refine ⟨_, rfl, _, _, _, _, true, rfl, .ty _, .base (.str x), kit_ty (by decide +kernel), true, rfl, ?_⟩
    refine ⟨_, rfl, _, rfl, a, C, dx, _, _, rfl, h1, W.cl, W.nE, wk_ends _ _ _, d, _, rfl, DGet.k (k := Sum.inr x) h3, ?_⟩
    rw [valV_mem nd]
    exact k
def spWkEnd (C : Addr) : Sp := fun vs H Q _ => ∃ (a : Addr) (x nm : Str) (ws : List Str) (i : Nat), vs = [.ref a, .str x] ∧ WkAt C H a nm ws ∧ ws.Nodup ∧ ws[i]? = some x ∧ Q (.int ((i : Int) + 1)) H
abbrev s_Work_end_of : Stmt := inClass (top 17) 3
theorem sc_Work_end_of : FnScope ["self", "word"] ["self", "word"] (defScope s_Work_end_of) := ⟨rfl, rfl, rfl, by decide +kernel, rfl, by decide +kernel, by decide +kernel⟩
theorem ok_wk_end {C fI : Addr} {fdI : FuncData} (F : Fun K "end_of" "Work.end_of" s_Work_end_of f fd) (T : Blt mg) (W : WkTxt K C) (M_Work_contains : MetOk P w K mg base 1 C "__contains__" fI fdI ["self", "x"] (spWkIn C)) : FnOk P w K mg base CX0 2 f fd ["self", "word"] (spWkEnd C) := by
  refine F.ok sc_Work_end_of (fun vs H Q E h => ?_) (fun cdv A outer s H vs Q E hr h => ?_)
  · obtain ⟨a, x, nm, ws, i, rfl, _⟩ := h
    rfl
  · obtain ⟨a, x, nm, ws, i, rfl, kw, nd, hi, k⟩ := h
    obtain ⟨dx, t, d, h1, h2, h3⟩ := kw.ob
    have hu := hu_of hr
    have hx : x ∈ ws := List.mem_of_getElem? hi
    refine ⟨_, (pss_one (ps_ret (pe_ifExp (pt_cmpR (M_Work_contains.isin (hr.mono (by decide))) (pv 1) (pv 0) (by rfl)) (pe_dget hu (pe_fld (pv 0) rfl) (pv 1) (fun _ _ => rfl)) pe_int))), ?_⟩
    refine ⟨_, rfl, _, rfl, a, dx, _, rfl, h1, a, x, nm, ws, rfl, kw, nd, _, rfl, ?_⟩
    rw [decide_eq_true hx]
    refine ⟨_, rfl, ?_⟩
    have hg : DGet H d (.str x) (some (.int (((0 : Nat) : Int) + (i : Int) + 1))) := by
      have := DGet.k (k := Sum.inr x) h3
      rw [endsL_at 0 ws i x nd hi] at this
      exact this
    have e0 : ((0 : Nat) : Int) + (i : Int) + 1 = (i : Int) + 1 := by omega
    rw [e0] at hg
    exact ⟨_, rfl, a, C, dx, _, _, rfl, h1, W.cl, W.nE, wk_ends _ _ _, _, rfl, d, _, rfl, hg, k⟩
/-! ### == -/
theorem dpAll_strs {H : Hp} : ∀ ws : List Str, DpAll K H (ws.map V.str) (ws.map PyData.str)
  | [] => .nil
  | x :: r => .cons (.str x) (dpAll_strs r)
theorem isW_ok {x : Str} (h : isW x = true) : PyData.strOk x = true := by
  unfold isW at h
  simp only [Bool.and_eq_true, List.all_eq_true, decide_eq_true_eq] at h
  unfold PyData.strOk
  rw [Array.all_eq_true']
  intro c hc
  have := (h.2 c (by simpa using hc)).2
  simp
  omega
theorem depth_strs : ∀ ws : List Str, PyData.depthAll (ws.map PyData.str) = 0
  | [] => rfl
  | x :: r => by
    show max (PyData.depth (.str x)) (PyData.depthAll (r.map PyData.str)) = 0
    rw [depth_strs r]
    rfl
theorem lay_strs : ∀ ws : List Str, (∀ x ∈ ws, isW x = true) → PyData.canLayAll0 (ws.map PyData.str) = true
  | [], _ => rfl
  | x :: r, h => by
    show (PyData.strOk x && PyData.canLayAll0 (r.map PyData.str)) = true
    rw [isW_ok (h x List.mem_cons_self), lay_strs r fun y hy => h y (List.mem_cons_of_mem _ hy)]
    rfl
theorem shaped_strs (ws : List Str) (h : ∀ x ∈ ws, isW x = true) : PySem.SeqAt.shaped (.tuple (ws.map PyData.str)) = true := by
  show (PyData.canLayAll0 (ws.map PyData.str) && decide (PyData.depthAll (ws.map PyData.str) + 1 ≤ 64)) = true
  rw [lay_strs ws h, depth_strs]
  rfl
theorem eqvAll_strs : ∀ ws vs : List Str, PyData.eqvAll (ws.map PyData.str) (vs.map PyData.str) = decide (ws = vs)
  | [], [] => rfl
  | [], _ :: _ => rfl
  | _ :: _, [] => rfl
  | x :: r, y :: t => by
    show ((x == y) && PyData.eqvAll (r.map PyData.str) (t.map PyData.str)) = decide (x :: r = y :: t)
    rw [eqvAll_strs r t]
    by_cases h1 : x = y <;> by_cases h2 : r = t <;> simp [h1, h2]
theorem eqv_strs (ws vs : List Str) : PyData.eqv (.tuple (ws.map PyData.str)) (.tuple (vs.map PyData.str)) = decide (ws = vs) := eqvAll_strs ws vs
def spWkEq (C : Addr) : Sp := fun vs H Q _ => ∃ (a b : Addr) (nm nm' : Str) (ws ws' : List Str), vs = [.ref a, .ref b] ∧ WkAt C H a nm ws ∧ WkAt C H b nm' ws' ∧ (∀ x ∈ ws, isW x = true) ∧ (∀ x ∈ ws', isW x = true) ∧ Q (.bl (decide (nm = nm' ∧ ws = ws'))) H
structure WkIsi (K : PySem.W.Frag) (mg : Str → Option Value) (C : Addr) : Prop where
  g_Work : mg "Work" = some (.ref C)
  ha : PySem.W.findIn K (.ref C) "__class__" = some (some (.builtin "object.__class__"))
  hn : PySem.W.specialIn K (.builtin "object.__class__") "__get__" = some (some (.builtin "getset_descriptor.__get__"))
  htk : PySem.W.takesIn K (.builtin "object.__class__") = some true
  hm : PySem.W.mroIn K C (.type "object") = some true
  ko : PySem.W.kitOne K (.ref C) (.ref C) = some true
abbrev s_Work_eq : Stmt := inClass (top 17) 6
theorem sc_Work_eq : FnScope ["self", "other"] ["self", "other"] (defScope s_Work_eq) := ⟨rfl, rfl, rfl, by decide +kernel, rfl, by decide +kernel, by decide +kernel⟩
theorem ok_wk_eq {C : Addr} (F : Fun K "__eq__" "Work.__eq__" s_Work_eq f fd) (T : Blt mg) (W : WkTxt K C) (T' : WkIsi K mg C) : FnOk P w K mg base CX0 1 f fd ["self", "other"] (spWkEq C) := by
  refine F.ok sc_Work_eq (fun vs H Q E h => ?_) (fun cdv A outer s H vs Q E hr h => ?_)
  · obtain ⟨a, b, nm, nm', ws, ws', rfl, _⟩ := h
    rfl
  · obtain ⟨a, b, nm, nm', ws, ws', rfl, ⟨dx, t, d, h1, h2, h3⟩, ⟨dy, t', d', g1, g2, g3⟩, l1, l2, k⟩ := h
    refine ⟨_, (pss_one (ps_ret (pe_and (pe_callB call_isi (by rfl) T.b_isinstance (by decide +kernel) (pa_cons (pv 1) (pa_cons (pe_glob (v := .ref _) rfl T'.g_Work rfl) pa_nil))) (pe_and (pe_cmpR op_eq (pe_fld (pv 0) rfl) (pe_fld (pv 1) rfl) (nomark _)) (pe_one (pe_cmpR (op_eqD hr.units) (pe_fld (pv 0) rfl) (pe_fld (pv 1) rfl) (nomark _))))))), ?_⟩
    refine ⟨_, rfl, _, _, _, _, true, rfl, .own C, .base (.ins g1 W.cl T'.ha T'.hn T'.htk T'.hm), T'.ko, true, rfl, ?_⟩
    refine ⟨_, rfl, a, C, dx, _, _, rfl, h1, W.cl, W.nN, wk_name _ _ _, _, rfl, b, C, dy, _, _, rfl, g1, W.cl, W.nN, wk_name _ _ _, rfl, _, rfl, ite2 (fun hn => ?_) (fun hn => ?_)⟩
    · have hn : nm = nm' := V.str.inj (of_decide_eq_true hn)
      refine ⟨_, rfl, a, C, dx, _, _, rfl, h1, W.cl, W.nW, wk_words _ _ _, _, rfl, b, C, dy, _, _, rfl, g1, W.cl, W.nW, wk_words _ _ _, _, _, .tup (SqT.of h2) (dpAll_strs ws), .tup (SqT.of g2) (dpAll_strs ws'), shaped_strs ws l1, shaped_strs ws' l2, ?_⟩
      have e : decide (nm = nm' ∧ ws = ws') = decide (ws = ws') := by simp [hn]
      rw [e] at k
      rw [eqv_strs]
      exact k
    · have hn : ¬ nm = nm' := fun z => hn (decide_eq_true (congrArg V.str z))
      have e : decide (nm = nm' ∧ ws = ws') = false := by simp [hn]
      rw [e] at k
      exact k
end
end Lm

namespace Lm
open PySem L2
def nts (l : List Nat) : List V := l.map fun n : Nat => V.int n
theorem nts_len (l : List Nat) : (nts l).length = l.length := List.length_map ..
theorem nts_at {l : List Nat} {i n : Nat} (h : l[i]? = some n) : (nts l)[i]? = some (V.int n) := by
  unfold nts
  rw [List.getElem?_map, h]
  rfl
theorem nts_flat (l : List Nat) : (nts l).all flatV = true := by
  unfold nts
  rw [List.all_eq_true]
  intro x hx
  obtain ⟨n, _, rfl⟩ := List.mem_map.mp hx
  rfl
theorem nts_in (l : List Nat) (n : Nat) : inV (.int n) (nts l) = decide (n ∈ l) := by
  unfold inV nts
  induction l with
  | nil => rfl
  | cons a r ih =>
    rw [List.map_cons, List.any_cons, ih]
    show ((a : Int) == (n : Int) || decide (n ∈ r)) = decide (n ∈ a :: r)
    by_cases h : a = n
    · subst h; simp
    · have h2 : ¬ (a : Int) = (n : Int) := fun z => h (by omega)
      have h3 : ¬ n = a := fun z => h z.symm
      simp [h2, h3]
theorem strs_flat (l : List Str) : (l.map V.str).all flatV = true := by
  rw [List.all_eq_true]
  intro x hx
  obtain ⟨n, _, rfl⟩ := List.mem_map.mp hx
  rfl
theorem strs_in (l : List Str) (x : Str) : inV (.str x) (l.map V.str) = decide (x ∈ l) := by
  unfold inV
  induction l with
  | nil => rfl
  | cons a r ih =>
    rw [List.map_cons, List.any_cons, ih]
    show ((a == x) || decide (x ∈ r)) = decide (x ∈ a :: r)
    by_cases h : a = x
    · subst h; simp
    · have h3 : ¬ x = a := fun z => h z.symm
      simp [h, h3]
section
variable {P : Program} {w : World} {K : PySem.W.Frag} {mg : Str → Option Value} {base : Heap} {f : Addr} {fd : FuncData}
def spCuts (C : Addr) : Sp := fun vs H Q _ => ∃ (wk a : Addr) (nm : Str) (ws : List Str) (S : Nat → Bool), vs = [.ref wk, .ref a] ∧ WkAt C H wk nm ws ∧ ws.Nodup ∧ ws.length ≤ 60 ∧ SeqAt H a ((pick ws S).map V.str) ∧
  ∀ p H', H p = none → Same H H' → H' p = some (.lst (nts (cutsL ws.length S))) → Q (.ref p) H'
abbrev s_cuts_behind : Stmt := top 19
theorem sc_cuts_behind : FnScope ["work", "passages", "cuts", "index", "word", "cut"] ["work", "passages"] (defScope s_cuts_behind) := ⟨rfl, rfl, rfl, by decide +kernel, rfl, by decide +kernel, by decide +kernel⟩
theorem ok_cuts {C fR fE : Addr} {fdR fdE : FuncData} (F : Fun K "cuts_behind" "cuts_behind" s_cuts_behind f fd) (T : Blt mg) (D_is_row : DefOk P w K mg base 1 "is_row" fR fdR ["x"] spIsRow) (M_Work_end_of : MetOk P w K mg base 2 C "end_of" fE fdE ["self", "word"] (spWkEnd C)) :
    FnOk P w K mg base CX0 3 f fd ["work", "passages"] (spCuts C) := by
  refine F.ok sc_cuts_behind (fun vs H Q E h => ?_) (fun cdv A outer s H vs Q E hr h => ?_)
  · obtain ⟨wk, a, nm, ws, S, rfl, _⟩ := h
    rfl
  · obtain ⟨wk, a, nm, ws, S, rfl, kw, nd, l1, hq, k⟩ := h
    refine ⟨_, (pss_cons (ps_if (pt_not (pt_val (pe_d D_is_row (hr.mono (by decide)) (pa_cons (pv 1) pa_nil)))) (pss_one ps_never) pss_nil)
        (pss_cons (ps_set (i := 2) sc_cuts_behind.nd rfl (by first | exact Or.inl rfl | exact Or.inr rfl) (pe_lst (pa_cons pe_int pa_nil)))
        (pss_cons (ps_for PassesOwn.never rfl (pi_enumA rfl T.b_enumerate (pa_cons (pv 1) pa_nil)) (pg_tup rfl (pgs_cons (pg_name (i := 3) sc_cuts_behind.nd rfl (by first | exact Or.inl rfl | exact Or.inr rfl)) (pgs_cons (pg_name (i := 4) sc_cuts_behind.nd rfl (by first | exact Or.inl rfl | exact Or.inr rfl)) pgs_nil))) (pss_cons (ps_set (i := 5) sc_cuts_behind.nd rfl (by first | exact Or.inl rfl | exact Or.inr rfl) (pe_m M_Work_end_of (hr.mono (by decide)) (pv 0) (pa_cons (pv 4) pa_nil)))
        (pss_cons (ps_if (pt_cmpR op_le (pv 5) (pe_ix ix_list (pv 2) (pe_un un_neg pe_int) (fun _ _ => rfl)) (nomark _)) (pss_one ps_never) pss_nil)
        (pss_one (ps_expr (pe_bm PySem.F.plainAttrs_list PySem.F.slot_list_append PySem.F.type_list_append mt_append (pv 2) (pa_cons (pv 5) pa_nil)))))))
        (pss_one (ps_ret (pv 2)))))), ?_⟩
    refine ⟨_, rfl, a, _, rfl, hq, fun H1 e1 => ⟨_, rfl, ?_⟩⟩
    have hq1 : SeqAt H1 a ((pick ws S).map V.str) := hq.elim (fun h => .inl (e1 _ _ h)) fun h => .inr (e1 _ _ h)
    refine ⟨by show 1 ≤ sizeLine; decide, fun p np => ?_⟩
    have npH : H p = none := e1.free np
    have hq2 : SeqAt (upd H1 p (.lst [.int 0])) a ((pick ws S).map V.str) := hq1.elim (fun h => .inl (Same.upd' np _ _ h)) fun h => .inr (Same.upd' np _ _ h)
    have e2 : Same H (upd H1 p (.lst [.int 0])) := e1.trans (Same.upd' np)
    have hl : ((pick ws S).map V.str).length = (idx ws.length S).length := by rw [List.length_map]; unfold pick; rw [List.length_map]
    refine ⟨_, rfl, for_enumA hq2 (fun i σ' H' => ∃ u v x : Option V, σ' = [some (.ref wk), some (.ref a), some (.ref p), u, v, x] ∧ H' p = some (.lst (nts (0 :: ((idx ws.length S).take i).map (· + 1)))) ∧ Same H H')
      ⟨none, none, none, rfl, upd_same, e2⟩ ?_ ?_ ?_⟩
    · rintro i σ' H' _ ⟨u, v, x, rfl, gp, e⟩ o ho
      rcases hq with hq | hq
      · rw [e2 _ _ hq] at ho
        rw [← ho]; exact e _ _ hq
      · rw [e2 _ _ hq] at ho
        rw [← ho]; exact e _ _ hq
    · rintro i y σ' H' H'' hi ⟨u, v, x, rfl, gp, e⟩ ⟨T', x1, x2, rfl, nT, rfl, hx1, hx2⟩
      cases (Option.some.inj hx1)
      have hx2 : ((pick ws S).map V.str)[i]? = some x2 := hx2
      rw [hl] at hi
      obtain ⟨j, hj⟩ : ∃ j, (idx ws.length S)[i]? = some j := ⟨_, List.getElem?_eq_getElem hi⟩
      have hjm := idx_mem.mp (List.mem_of_getElem? hj)
      unfold pick at hx2
      rw [List.map_map, List.getElem?_map, hj] at hx2
      cases (Option.some.inj hx2)
      have hw : ws[j]? = some (ws.getD j no) := by
        rw [List.getD_eq_getElem?_getD, List.getElem?_eq_getElem hjm.1]
        rfl
      have hTp : T' ≠ p := (ne_of_none gp nT).symm
      have e3 : Same H (upd H' T' (.tup [.int (i : Nat), .str (ws.getD j no)])) := e.trans (Same.upd' nT)
      have kw3 := kw.same e3
      obtain ⟨dx, t, d, o1, o2, o3⟩ := kw3.ob
      refine ⟨T', _, rfl, SqT.of upd_same, rfl, _, _, rfl, _, _, rfl, rfl, ?_⟩
      refine ⟨_, rfl, wk, dx, _, rfl, o1, wk_no _ _ _ (by decide +kernel) (by decide +kernel) (by decide +kernel), _, rfl, wk, _, nm, ws, j, rfl, kw3, nd, hw, ?_⟩
      have gp2 : (upd H' T' (.tup [.int (i : Nat), .str (ws.getD j no)])) p = some (.lst (nts (0 :: ((idx ws.length S).take i).map (· + 1)))) := by rw [upd_ne hTp.symm]; exact gp
      -- the last cut is less
      obtain ⟨pre, z, hz, hlt⟩ : ∃ (pre : List V) (z : Nat), nts (0 :: ((idx ws.length S).take i).map (· + 1)) = pre ++ [.int z] ∧ z < j + 1 := by
        cases i with
        | zero => exact ⟨[], 0, rfl, by omega⟩
        | succ i =>
          obtain ⟨j', hj'⟩ : ∃ j', (idx ws.length S)[i]? = some j' := ⟨_, List.getElem?_eq_getElem (by omega)⟩
          have hlt : j' < j := by
            obtain ⟨a1, b1⟩ := List.getElem?_eq_some_iff.mp hj'
            obtain ⟨a2, b2⟩ := List.getElem?_eq_some_iff.mp hj
            have := List.pairwise_iff_getElem.mp (idx_sorted ws.length S) i (i + 1) a1 a2 (by omega)
            rw [b1, b2] at this
            exact this
          refine ⟨nts (0 :: ((idx ws.length S).take i).map (· + 1)), j' + 1, ?_, by omega⟩
          rw [List.take_succ, hj']
          simp [nts]
      have hnl : decide ((((j : Int) + 1)) ≤ (z : Int)) = false := decide_eq_false (by omega)
      refine ⟨_, rfl, _, rfl, _, rfl, _, _, _, _, rfl, rfl, SqL.of gp2, by rw [hz]; exact atI_last _ _, _, _, rfl, rfl, _, rfl, ?_⟩
      rw [hnl]
      refine ⟨_, rfl, .inl ⟨rfl, _, SqL.of gp2⟩, _, rfl, _, _, _, rfl, rfl, gp2, small1000 (by rw [nts_len]; simp; have := idx_len ws.length S; omega), ?_⟩
      refine ⟨_, _, _, rfl, ?_, Same.mut e3 npH⟩
      rw [upd_same, List.take_succ, hj]
      simp [nts]
    · rintro σ' H' ⟨u, v, x, rfl, gp, e⟩
      rw [hl, List.take_length] at gp
      exact ⟨_, rfl, k p H' npH e gp⟩
def spCounts : Sp := fun vs H Q _ => ∃ (c : Addr) (N : Nat) (S : Nat → Bool), vs = [.ref c, .int N] ∧ H c = some (.lst (nts (cutsL N S))) ∧ N ≤ 60 ∧ ∀ p H', H p = none → Same H H' → H' p = some (.lst (nts (countsL N S))) → Q (.ref p) H'
abbrev s_counts_at : Stmt := top 20
theorem sc_counts_at : FnScope ["cuts", "length", "counts", "cut"] ["cuts", "length"] (defScope s_counts_at) := ⟨rfl, rfl, rfl, by decide +kernel, rfl, by decide +kernel, by decide +kernel⟩
theorem ok_counts (F : Fun K "counts_at" "counts_at" s_counts_at f fd) (T : Blt mg) : FnOk P w K mg base CX0 1 f fd ["cuts", "length"] spCounts := by
  refine F.ok sc_counts_at (fun vs H Q E h => ?_) (fun cdv A outer s H vs Q E hr h => ?_)
  · obtain ⟨c, N, S, rfl, _⟩ := h
    rfl
  · obtain ⟨c, N, S, rfl, hc, hN, k⟩ := h
    refine ⟨_, (pss_cons (ps_set (i := 2) sc_counts_at.nd rfl (by first | exact Or.inl rfl | exact Or.inr rfl) (pe_lst (pa_cons pe_int pa_nil)))
        (pss_cons (ps_for PassesOwn.never rfl (pi_range2 rfl T.b_range (pa_cons pe_int (pa_cons (pe_op op_add (pv 1) pe_int) pa_nil))) (pg_name (i := 3) sc_counts_at.nd rfl (by first | exact Or.inl rfl | exact Or.inr rfl)) (pss_one (ps_expr (pe_bm PySem.F.plainAttrs_list PySem.F.slot_list_append PySem.F.type_list_append mt_append (pv 2) (pa_cons (pe_op op_add (pe_ix ix_list (pv 2) (pe_un un_neg pe_int) (fun _ _ => rfl)) (pe_callTy call_int1 (by rfl) T.b_int (by decide +kernel) (pa_cons (pe_cmpR op_in_seq (pv 3) (pv 0) (by rfl)) pa_nil))) pa_nil)))))
        (pss_one (ps_ret (pv 2))))), ?_⟩
    refine ⟨by show 1 ≤ sizeLine; decide, fun p np => ?_⟩
    have hpc : p ≠ c := (ne_of_none hc np).symm
    refine ⟨_, rfl, _, _, rfl, rfl, _, _, rfl, ⟨by decide, by decide, by omega, by omega⟩, for_range (lo := 1) (n := ((N : Int) + 1 - 1).toNat) (fun i σ' H' => ∃ u : Option V, σ' = [some (.ref c), some (.int N), some (.ref p), u] ∧ H' p = some (.lst (nts ((List.range (i + 1)).map (cnt S)))) ∧ Same H H')
      ⟨none, rfl, upd_same, Same.upd' np⟩ ?_ ?_⟩
    · rintro i σ' H' hi ⟨u, rfl, gp, e⟩
      have hi : i < N := by omega
      have hpre : nts ((List.range (i + 1)).map (cnt S)) = nts ((List.range i).map (cnt S)) ++ [.int (cnt S i : Nat)] := by
        rw [List.range_succ]
        simp [nts]
      have e1 : (1 : Int) + (i : Int) = ((i + 1 : Nat) : Int) := by omega
      refine ⟨_, rfl, .inl ⟨rfl, _, SqL.of gp⟩, ?_⟩
      refine ⟨_, rfl, _, rfl, _, _, _, _, rfl, rfl, SqL.of gp, by rw [hpre]; exact atI_last _ _, _, rfl, _, rfl, c, _, rfl, .inl (SqL.of (e _ _ hc)), rfl, nts_flat _, .inr ⟨_, rfl, _, _, rfl, rfl, ?_⟩⟩
      refine ⟨_, _, _, rfl, rfl, gp, small1000 (by rw [nts_len]; simp; omega), ?_⟩
      refine ⟨_, rfl, ?_, Same.mut e np⟩
      have e2 : inV (.int ((1 : Int) + (i : Int))) (nts (cutsL N S)) = S i := by
        rw [e1, nts_in]
        by_cases h : S i = true
        · rw [h]; exact decide_eq_true (cuts_mem.mpr ⟨hi, h⟩)
        · rw [decide_eq_false (fun z => h (cuts_mem.mp z).2)]
          simpa using h
      rw [upd_same]
      show some (HO.lst (nts ((List.range (i + 1)).map (cnt S)) ++ [V.int ((cnt S i : Nat) + if inV (.int ((1 : Int) + (i : Int))) (nts (cutsL N S)) = true then 1 else 0)])) = some (HO.lst (nts ((List.range (i + 1 + 1)).map (cnt S))))
      rw [e2, List.range_succ (n := i + 1), List.map_append, List.map_singleton, cnt_succ]
      by_cases h : S i = true <;> simp [nts, h]
    · rintro σ' H' ⟨u, rfl, gp, e⟩
      have hN2 : ((N : Int) + 1 - 1).toNat = N := by omega
      rw [hN2] at gp
      exact ⟨_, rfl, k p H' np e gp⟩
/-! ### an edition as it stands in the heap -/
def edF (wk t u v : Addr) : List (Str × V) := [("work", .ref wk), ("words", .ref t), ("cuts", .ref u), ("counts", .ref v)]
theorem e_1 : (("words" : Str) == "work") = false := by decide +kernel
theorem e_2 : (("cuts" : Str) == "work") = false := by decide +kernel
theorem e_3 : (("cuts" : Str) == "words") = false := by decide +kernel
theorem e_4 : (("counts" : Str) == "work") = false := by decide +kernel
theorem e_5 : (("counts" : Str) == "words") = false := by decide +kernel
theorem e_6 : (("counts" : Str) == "cuts") = false := by decide +kernel
theorem ed_work (wk t u v : Addr) : (edF wk t u v).lookup ("work" : Str) = some (.ref wk) := by simp [edF, List.lookup]
theorem ed_words (wk t u v : Addr) : (edF wk t u v).lookup ("words" : Str) = some (.ref t) := by simp [edF, List.lookup, e_1]
theorem ed_cuts (wk t u v : Addr) : (edF wk t u v).lookup ("cuts" : Str) = some (.ref u) := by simp [edF, List.lookup, e_2, e_3]
theorem ed_counts (wk t u v : Addr) : (edF wk t u v).lookup ("counts" : Str) = some (.ref v) := by simp [edF, List.lookup, e_4, e_5, e_6]
theorem ed_no (wk t u v : Addr) {m : Str} (h1 : (m == "work") = false) (h2 : (m == "words") = false) (h3 : (m == "cuts") = false) (h4 : (m == "counts") = false) : (edF wk t u v).lookup m = none := by simp [edF, List.lookup, h1, h2, h3, h4]
def p1 (wk : Addr) : List (Str × V) := [("work", .ref wk)]
def p2 (wk t : Addr) : List (Str × V) := [("work", .ref wk), ("words", .ref t)]
def p3 (wk t u : Addr) : List (Str × V) := [("work", .ref wk), ("words", .ref t), ("cuts", .ref u)]
theorem ne_b {a b : Str} (h : (a == b) = false) : ¬ (b = a) := fun z => by rw [z] at h; simp at h
theorem put1 (wk : Addr) : putF "work" (.ref wk) [] = p1 wk := rfl
theorem put2 (wk t : Addr) : putF "words" (.ref t) (p1 wk) = p2 wk t := by simp [putF, p1, p2, ne_b e_1]
theorem put3 (wk t u : Addr) : putF "cuts" (.ref u) (p2 wk t) = p3 wk t u := by simp [putF, p2, p3, ne_b e_2, ne_b e_3]
theorem put4 (wk t u v : Addr) : putF "counts" (.ref v) (p3 wk t u) = edF wk t u v := by simp [putF, p3, edF, ne_b e_4, ne_b e_5, ne_b e_6]
/-- the edition of the passages S of the work at wk, at e -/
structure EdAt (CW CE : Addr) (H : Hp) (e wk : Addr) (nm : Str) (ws : List Str) (S : Nat → Bool) : Prop where
  ob : ∃ dx t u v, H e = some (.ins CE dx (edF wk t u v)) ∧ H t = some (.tup ((pick ws S).map V.str)) ∧ H u = some (.tup (nts (cutsL ws.length S))) ∧ H v = some (.tup (nts (countsL ws.length S)))
  wk : WkAt CW H wk nm ws
theorem EdAt.same {CW CE : Addr} {H H' : Hp} {a wk : Addr} {nm : Str} {ws : List Str} {S : Nat → Bool} (k : EdAt CW CE H a wk nm ws S) (e : Same H H') : EdAt CW CE H' a wk nm ws S := by
  obtain ⟨⟨dx, t, u, v, h1, h2, h3, h4⟩, h5⟩ := k
  exact ⟨⟨dx, t, u, v, e _ _ h1, e _ _ h2, e _ _ h3, e _ _ h4⟩, h5.same e⟩
theorem EdAt.kp {CW CE st : Addr} {H H' : Hp} {a wk : Addr} {nm : Str} {ws : List Str} {S : Nat → Bool} {xs : List V} (k : EdAt CW CE H a wk nm ws S) (e : Kp st H H') (hs : H st = some (.lst xs)) : EdAt CW CE H' a wk nm ws S := by
  obtain ⟨⟨dx, t, u, v, h1, h2, h3, h4⟩, h5⟩ := k
  exact ⟨⟨dx, t, u, v, e _ _ (ne_of h1 hs (by intro z; cases z)) h1, e _ _ (ne_of h2 hs (by intro z; cases z)) h2, e _ _ (ne_of h3 hs (by intro z; cases z)) h3, e _ _ (ne_of h4 hs (by intro z; cases z)) h4⟩, h5.kp e hs⟩
structure EdTxt (K : PySem.W.Frag) (C : Addr) : Prop where
  cl : Cls K C
  nK : NoAttr K C "work"
  nW : NoAttr K C "words"
  nC : NoAttr K C "cuts"
  nN : NoAttr K C "counts"
/-- a work is right: its words -/
structure WOk (ws : List Str) : Prop where
  ok : Wds ws ws.length
  l0 : 0 < ws.length
  l1 : ws.length ≤ 60
def spEdInit (CW CE : Addr) : Sp := fun vs H Q _ => ∃ (p dx wk a : Addr) (nm : Str) (ws : List Str) (S : Nat → Bool), vs = [.ref p, .ref wk, .ref a] ∧ H p = some (.ins CE dx []) ∧ WkAt CW H wk nm ws ∧ WOk ws ∧ SeqAt H a ((pick ws S).map V.str) ∧ wk ≠ p ∧
  ∀ H', EdAt CW CE H' p wk nm ws S → Kp p H H' → Q .non H'
abbrev s_Edition_init : Stmt := inClass (top 18) 0
theorem sc_Edition_init : FnScope ["self", "work", "passages", "cuts"] ["self", "work", "passages"] (defScope s_Edition_init) := ⟨rfl, rfl, rfl, by decide +kernel, rfl, by decide +kernel, by decide +kernel⟩
theorem WkAt.kpi {C C' p dx : Addr} {H H' : Hp} {a : Addr} {nm : Str} {ws : List Str} {fs : List (Str × V)} (k : WkAt C H a nm ws) (e : Kp p H H') (hs : H p = some (.ins C' dx fs)) (ha : a ≠ p) : WkAt C H' a nm ws := by
  obtain ⟨⟨dx, t, d, h1, h2, h3⟩⟩ := k
  exact ⟨⟨dx, t, d, e _ _ ha h1, e _ _ (ne_of h2 hs (by intro z; cases z)) h2, e _ _ (ne_of h3 hs (by intro z; cases z)) h3⟩⟩
theorem ok_ed_init {CW CE fC fN fL : Addr} {fdC fdN fdL : FuncData} (F : Fun K "__init__" "Edition.__init__" s_Edition_init f fd) (T : Blt mg) (W : EdTxt K CE)
    (D_cuts_behind : DefOk P w K mg base 3 "cuts_behind" fC fdC ["work", "passages"] (spCuts CW)) (D_counts_at : DefOk P w K mg base 1 "counts_at" fN fdN ["cuts", "length"] spCounts)
    (M_Work_len : MetOk P w K mg base 1 CW "__len__" fL fdL ["self"] (spWkLen CW)) : FnOk P w K mg base CX0 4 f fd ["self", "work", "passages"] (spEdInit CW CE) := by
  refine F.ok sc_Edition_init (fun vs H Q E h => ?_) (fun cdv A outer s H vs Q E hr h => ?_)
  · obtain ⟨p, dx, wk, a, nm, ws, S, rfl, _⟩ := h
    rfl
  · obtain ⟨p, dx, wk, a, nm, ws, S, rfl, hp, kw, hw, hq, hwp, k⟩ := h
    refine ⟨_, (pss_cons (ps_set (i := 3) sc_Edition_init.nd rfl (by first | exact Or.inl rfl | exact Or.inr rfl) (pe_d D_cuts_behind (hr.mono (by decide)) (pa_cons (pv 1) (pa_cons (pv 2) pa_nil))))
        (pss_cons (ps_fld (pv 0) (pv 1) rfl)
        (pss_cons (ps_fld (pv 0) (pe_callTy call_tuple_of (by rfl) T.b_tuple (by decide +kernel) (pa_cons (pv 2) pa_nil)) rfl)
        (pss_cons (ps_fld (pv 0) (pe_callTy call_tuple_of (by rfl) T.b_tuple (by decide +kernel) (pa_cons (pv 3) pa_nil)) rfl)
        (pss_one (ps_fld (pv 0) (pe_callTy call_tuple_of (by rfl) T.b_tuple (by decide +kernel) (pa_cons (pe_d D_counts_at (hr.mono (by decide)) (pa_cons (pv 3) (pa_cons (pe_callB (M_Work_len.len (hr.mono (by decide))) (by rfl) T.b_len PySem.boot_len (pa_cons (pv 1) pa_nil)) pa_nil))) pa_nil)) rfl)))))), ?_⟩
    have hap : a ≠ p := by
      rcases hq with hq | hq
      · exact ne_of hq hp (by intro z; cases z)
      · exact ne_of hq hp (by intro z; cases z)
    refine ⟨_, rfl, _, rfl, wk, a, nm, ws, S, rfl, kw, hw.ok.nd, hw.l1, hq, fun c H1 nc e1 hc => ?_⟩
    have hcp : c ≠ p := (ne_of_none hp nc).symm
    have hp1 := e1 _ _ hp
    refine ⟨_, rfl, _, rfl, p, CE, dx, _, rfl, hp1, W.cl, W.nK, by decide, ?_⟩
    rw [put1]
    generalize hH2 : upd H1 p (.ins CE dx (p1 wk)) = H2
    have kp2 : Kp p H H2 := by rw [← hH2]; exact (Kp.of e1).trans (Kp.upd _ _ _)
    have hp2 : H2 p = some (.ins CE dx (p1 wk)) := by rw [← hH2]; exact upd_same
    have hc2 : H2 c = some (.lst (nts (cutsL ws.length S))) := by rw [← hH2, upd_ne hcp]; exact hc
    clear hH2
    -- behind the words, at t
    have fin : ∀ (t : Addr) (H3 : Hp), H3 p = some (.ins CE dx (p1 wk)) → H3 t = some (.tup ((pick ws S).map V.str)) → H3 c = some (.lst (nts (cutsL ws.length S))) → Kp p H H3 → t ≠ p →
        tSeq (sFld K (tVar 0) (tCB (fun xs H Q => ∃ p ys, xs = [.ref p] ∧ ((SqL K H p ys ∧ ∀ l, H l = none → Q (.ref l) (upd H l (.tup ys))) ∨ (SqT K H p ys ∧ Q (.ref p) H))) (tCons (tVar 3) tNil)) "cuts")
          (sFld K (tVar 0) (tCB (fun xs H Q => ∃ p ys, xs = [.ref p] ∧ ((SqL K H p ys ∧ ∀ l, H l = none → Q (.ref l) (upd H l (.tup ys))) ∨ (SqT K H p ys ∧ Q (.ref p) H))) (tCons (tCall spCounts [] E0 (tCons (tVar 3) (tCons (tCB (rLenOwn CW (spWkLen CW) E0) (tCons (tVar 1) tNil)) tNil))) tNil)) "counts")
          { nx := fun _ H' => Q .non H', rt := Q } [some (.ref p), some (.ref wk), some (.ref a), some (.ref c)] (upd H3 p (.ins CE dx (p2 wk t))) := by
      intro t H3 g1 g2 g3 g4 htp
      have g5 : (upd H3 p (.ins CE dx (p2 wk t))) c = some (.lst (nts (cutsL ws.length S))) := by rw [upd_ne hcp]; exact g3
      refine ⟨_, rfl, c, _, rfl, .inl ⟨SqL.of g5, fun u nu => ?_⟩⟩
      have hup : u ≠ p := (ne_of_none upd_same nu).symm
      have huc : u ≠ c := (ne_of_none g5 nu).symm
      have hut : u ≠ t := (ne_of_none (by rw [upd_ne htp]; exact g2) nu).symm
      refine ⟨_, rfl, p, CE, dx, _, rfl, (by rw [upd_ne hup.symm, upd_same]), W.cl, W.nC, (by show 2 < 1000; decide), ?_⟩
      rw [put3]
      generalize hH4 : upd (upd (upd H3 p _) u _) p _ = H4
      have kp4 : Kp p H H4 := by rw [← hH4]; exact ((g4.trans (Kp.upd _ _ _)).trans (Kp.of (Same.upd' nu))).trans (Kp.upd _ _ _)
      have q1 : H4 p = some (.ins CE dx (p3 wk t u)) := by rw [← hH4]; exact upd_same
      have q2 : H4 t = some (.tup ((pick ws S).map V.str)) := by rw [← hH4, upd_ne htp, upd_ne hut.symm, upd_ne htp]; exact g2
      have q3 : H4 u = some (.tup (nts (cutsL ws.length S))) := by rw [← hH4, upd_ne hup, upd_same]
      have q4 : H4 c = some (.lst (nts (cutsL ws.length S))) := by rw [← hH4, upd_ne hcp, upd_ne huc.symm, upd_ne hcp]; exact g3
      clear hH4
      have kw4 : WkAt CW H4 wk nm ws := kw.kpi kp4 hp hwp
      obtain ⟨dxw, tw, dw, o1, o2, o3⟩ := kw4.ob
      refine ⟨_, rfl, _, rfl, wk, dxw, _, rfl, o1, wk, nm, ws, rfl, kw4, ws.length, rfl, by have := hw.l1; omega, c, ws.length, S, rfl, q4, hw.l1, fun cs H5 ncs e5 hcs => ?_⟩
      refine ⟨cs, _, rfl, .inl ⟨SqL.of hcs, fun v nv => ?_⟩⟩
      have r1 := e5 _ _ q1
      have hvp : v ≠ p := (ne_of_none r1 nv).symm
      have hvt : v ≠ t := (ne_of_none (e5 _ _ q2) nv).symm
      have hvu : v ≠ u := (ne_of_none (e5 _ _ q3) nv).symm
      refine ⟨_, rfl, p, CE, dx, _, rfl, (by rw [upd_ne hvp.symm]; exact r1), W.cl, W.nN, (by show 3 < 1000; decide), ?_⟩
      rw [put4]
      have kp6 : Kp p H (upd (upd H5 v (.tup (nts (countsL ws.length S)))) p (.ins CE dx (edF wk t u v))) := ((kp4.trans (Kp.of e5)).trans (Kp.of (Same.upd' nv))).trans (Kp.upd _ _ _)
      refine k _ ⟨⟨dx, t, u, v, upd_same, ?_, ?_, ?_⟩, kw.kpi kp6 hp hwp⟩ kp6
      · rw [upd_ne htp, upd_ne hvt.symm]; exact e5 _ _ q2
      · rw [upd_ne hup, upd_ne hvu.symm]; exact e5 _ _ q3
      · rw [upd_ne hvp, upd_same]
    rcases hq with hq | hq
    · refine ⟨_, rfl, a, _, rfl, .inl ⟨SqL.of (kp2 _ _ hap hq), fun t nt => ?_⟩⟩
      have htp : t ≠ p := (ne_of_none hp2 nt).symm
      have htc : t ≠ c := (ne_of_none hc2 nt).symm
      refine ⟨_, rfl, p, CE, dx, _, rfl, (by rw [upd_ne htp.symm]; exact hp2), W.cl, W.nW, (by show 1 < 1000; decide), ?_⟩
      rw [put2]
      exact fin t _ (by rw [upd_ne htp.symm]; exact hp2) upd_same (by rw [upd_ne htc.symm]; exact hc2) (kp2.trans (Kp.of (Same.upd' nt))) htp
    · refine ⟨_, rfl, a, _, rfl, .inr ⟨SqT.of (kp2 _ _ hap hq), ?_⟩⟩
      refine ⟨_, rfl, p, CE, dx, _, rfl, hp2, W.cl, W.nW, (by show 1 < 1000; decide), ?_⟩
      rw [put2]
      exact fin a _ hp2 (kp2 _ _ hap hq) hc2 kp2 hap
end
end Lm

namespace Lm
open PySem L2
theorem nth_at {ws : List Str} {j : Nat} (h : j < ws.length) : ws[j]? = some (ws.getD j no) := by
  rw [List.getD_eq_getElem?_getD, List.getElem?_eq_getElem h]
  rfl
theorem pick_in {ws : List Str} {T : Nat → Bool} {j : Nat} (nd : ws.Nodup) (h : j < ws.length) : decide (ws.getD j no ∈ pick ws T) = T j := by
  by_cases hT : T j = true
  · rw [hT]
    exact decide_eq_true (List.mem_map.mpr ⟨j, idx_mem.mpr ⟨h, hT⟩, rfl⟩)
  · have : T j = false := by simpa using hT
    rw [this]
    refine decide_eq_false fun z => hT ?_
    obtain ⟨i, hi, e⟩ := List.mem_map.mp z
    have hi := idx_mem.mp hi
    have e1 := nth_at hi.1
    rw [show ws.getD i no = ws.getD j no from e] at e1
    have := nd_ix nd e1 (nth_at h)
    subst this
    exact hi.2
theorem pick_len (ws : List Str) (S : Nat → Bool) : (pick ws S).length = cnt S ws.length := by unfold pick cnt; rw [List.length_map]
theorem pick_congr {ws : List Str} {S T : Nat → Bool} (h : ∀ i < ws.length, S i = T i) : pick ws S = pick ws T := by
  unfold pick idx
  rw [List.filter_congr fun i hi => h i (List.mem_range.mp hi)]
theorem pick_at {ws : List Str} {S : Nat → Bool} {i j : Nat} (h : (idx ws.length S)[i]? = some j) : ((pick ws S).map V.str)[i]? = some (.str (ws.getD j no)) := by
  unfold pick
  rw [List.map_map, List.getElem?_map, h]
  rfl
theorem filter_and (N : Nat) (S T : Nat → Bool) : (idx N S).filter T = idx N fun i => S i && T i := by
  unfold idx
  rw [List.filter_filter]
  exact List.filter_congr fun i _ => Bool.and_comm _ _
section
variable {CW CE : Addr}
theorem mkEd {H : Hp} {wk a : Addr} {nm : Str} {ws : List Str} {S : Nat → Bool} {R : Addr → Hp → Prop} {E : XK} (kw : WkAt CW H wk nm ws) (hw : WOk ws) (hq : SeqAt H a ((pick ws S).map V.str)) (k : ∀ x H', H x = none → Same H H' → EdAt CW CE H' x wk nm ws S → R x H') :
    ∀ x dx, H x = none → H dx = none → dx ≠ x → spEdInit CW CE (.ref x :: ([.ref wk, .ref a] ++ [])) (upd (upd H dx (.own x)) x (.ins CE dx [])) (fun v H2 => v = .non ∧ R x H2) E := by
  intro x dx nx ndx nex
  have s0 : Same H (upd (upd H dx (.own x)) x (.ins CE dx [])) := fun b o e => by
    rw [upd_ne (ne_of_none e nx), upd_ne (ne_of_none e ndx)]
    exact e
  obtain ⟨dw, tw, ew, o1, _, _⟩ := id kw.ob
  refine ⟨x, dx, wk, a, nm, ws, S, rfl, upd_same, kw.same s0, hw, hq.elim (fun h => .inl (s0 _ _ h)) fun h => .inr (s0 _ _ h), ne_of_none o1 nx, fun H' he hk => ⟨rfl, k x H' nx (fun b o e => hk b o (ne_of_none e nx) (s0 b o e)) he⟩⟩
theorem mkWk {H : Hp} {a : Addr} {nm : Str} {ws : List Str} {R : Addr → Hp → Prop} {E : XK} (hn : isW nm = true) (hw : WOk ws) (hq : SeqAt H a (ws.map V.str)) (k : ∀ x H', H x = none → Same H H' → WkAt CW H' x nm ws → R x H') :
    ∀ x dx, H x = none → H dx = none → dx ≠ x → spWkInit CW (.ref x :: ([.str nm, .ref a] ++ [])) (upd (upd H dx (.own x)) x (.ins CW dx [])) (fun v H2 => v = .non ∧ R x H2) E := by
  intro x dx nx ndx nex
  have s0 : Same H (upd (upd H dx (.own x)) x (.ins CW dx [])) := fun b o e => by
    rw [upd_ne (ne_of_none e nx), upd_ne (ne_of_none e ndx)]
    exact e
  refine ⟨x, dx, a, nm, ws, rfl, upd_same, hq.elim (fun h => .inl (s0 _ _ h)) fun h => .inr (s0 _ _ h), hn, hw.ok, hw.l0, hw.l1, fun H' he hk => ⟨rfl, k x H' nx (fun b o e => hk b o (ne_of_none e nx) (s0 b o e)) he⟩⟩
end
section
variable {P : Program} {w : World} {K : PySem.W.Frag} {mg : Str → Option Value} {base : Heap} {f : Addr} {fd : FuncData}
theorem pick_all (ws : List Str) : pick ws (fun _ => true) = ws := by
  unfold pick idx
  rw [List.filter_eq_self.mpr fun _ _ => rfl]
  refine List.ext_getElem? fun i => ?_
  rw [List.getElem?_map]
  rcases Nat.lt_or_ge i ws.length with h | h
  · rw [List.getElem?_range h, nth_at h]
    rfl
  · rw [List.getElem?_eq_none (by simpa using h), List.getElem?_eq_none h]
    rfl
def spWhole (CW CE : Addr) : Sp := fun vs H Q _ => ∃ (wk : Addr) (nm : Str) (ws : List Str), vs = [.ref wk] ∧ WkAt CW H wk nm ws ∧ WOk ws ∧ ∀ p H', H p = none → Same H H' → EdAt CW CE H' p wk nm ws (fun _ => true) → Q (.ref p) H'
def spEdLen (CW CE : Addr) : Sp := fun vs H Q _ => ∃ (a wk : Addr) (nm : Str) (ws : List Str) (S : Nat → Bool), vs = [.ref a] ∧ EdAt CW CE H a wk nm ws S ∧ Q (.int (cnt S ws.length : Nat)) H
abbrev s_Edition_len : Stmt := inClass (top 18) 6
theorem sc_Edition_len : FnScope ["self"] ["self"] (defScope s_Edition_len) := ⟨rfl, rfl, rfl, by decide +kernel, rfl, by decide +kernel, by decide +kernel⟩
theorem ok_ed_len {CW CE : Addr} (F : Fun K "__len__" "Edition.__len__" s_Edition_len f fd) (T : Blt mg) (W : EdTxt K CE) : FnOk P w K mg base CX0 1 f fd ["self"] (spEdLen CW CE) := by
  refine F.ok sc_Edition_len (fun vs H Q E h => ?_) (fun cdv A outer s H vs Q E hr h => ?_)
  · obtain ⟨a, wk, nm, ws, S, rfl, _⟩ := h
    rfl
  · obtain ⟨a, wk, nm, ws, S, rfl, ⟨⟨dx, t, u, v, h1, h2, h3, h4⟩, _⟩, k⟩ := h
    refine ⟨_, (pss_one (ps_ret (pe_callB call_len_seq (by rfl) T.b_len PySem.boot_len (pa_cons (pe_fld (pv 0) rfl) pa_nil)))), ?_⟩
    refine ⟨_, rfl, a, CE, dx, _, _, rfl, h1, W.cl, W.nW, ed_words _ _ _ _, t, _, rfl, .inr (SqT.of h2), ?_⟩
    rw [List.length_map, pick_len]
    exact k
def spEdIn (CW CE : Addr) : Sp := fun vs H Q _ => ∃ (a wk : Addr) (x nm : Str) (ws : List Str) (S : Nat → Bool), vs = [.ref a, .str x] ∧ EdAt CW CE H a wk nm ws S ∧ Q (.bl (decide (x ∈ pick ws S))) H
abbrev s_Edition_contains : Stmt := inClass (top 18) 7
theorem sc_Edition_contains : FnScope ["self", "x"] ["self", "x"] (defScope s_Edition_contains) := ⟨rfl, rfl, rfl, by decide +kernel, rfl, by decide +kernel, by decide +kernel⟩
theorem ok_ed_in {CW CE : Addr} (F : Fun K "__contains__" "Edition.__contains__" s_Edition_contains f fd) (T : Blt mg) (W : EdTxt K CE) : FnOk P w K mg base CX0 1 f fd ["self", "x"] (spEdIn CW CE) := by
  refine F.ok sc_Edition_contains (fun vs H Q E h => ?_) (fun cdv A outer s H vs Q E hr h => ?_)
  · obtain ⟨a, wk, x, nm, ws, S, rfl, _⟩ := h
    rfl
  · obtain ⟨a, wk, x, nm, ws, S, rfl, ⟨⟨dx, t, u, v, h1, h2, h3, h4⟩, _⟩, k⟩ := h
    refine ⟨_, (pss_one (ps_ret (pe_and (pe_callB call_isi (by rfl) T.b_isinstance (by decide +kernel) (pa_cons (pv 1) (pa_cons (pe_bltn (v := .ty "str") (u := .type "str") (by rfl) T.b_str (by decide +kernel) rfl) pa_nil))) (pe_one (pe_cmpR op_in_seq (pv 1) (pe_fld (pv 0) rfl) (by rfl)))))), ?_⟩
    refine ⟨_, rfl, _, _, _, _, true, rfl, .ty _, .base (.str x), kit_ty (by decide +kernel), true, rfl, ?_⟩
    refine ⟨_, rfl, _, rfl, a, CE, dx, _, _, rfl, h1, W.cl, W.nW, ed_words _ _ _ _, t, _, rfl, .inr (SqT.of h2), rfl, strs_flat _, ?_⟩
    have e := strs_in (pick ws S) x
    rw [← e] at k
    exact k
def spReqCount (CW CE : Addr) : Sp := fun vs H Q _ => ∃ (a wk : Addr) (n : Nat) (nm : Str) (ws : List Str) (S : Nat → Bool), vs = [.int n, .ref a] ∧ EdAt CW CE H a wk nm ws S ∧ ws.length ≤ 60 ∧ n ≤ cnt S ws.length ∧ Q .non H
abbrev s_require_count : Stmt := top 21
theorem sc_require_count : FnScope ["count", "edition"] ["count", "edition"] (defScope s_require_count) := ⟨rfl, rfl, rfl, by decide +kernel, rfl, by decide +kernel, by decide +kernel⟩
theorem cnt_le (S : Nat → Bool) (N : Nat) : cnt S N ≤ N := idx_len N S
theorem ok_req_count {CW CE fU fL : Addr} {fdU fdL : FuncData} (F : Fun K "require_count" "require_count" s_require_count f fd) (T : Blt mg) (D_is_up_to : DefOk P w K mg base 2 "is_up_to" fU fdU ["x", "most"] spUpTo) (M_Edition_len : MetOk P w K mg base 1 CE "__len__" fL fdL ["self"] (spEdLen CW CE)) :
    FnOk P w K mg base CX0 3 f fd ["count", "edition"] (spReqCount CW CE) := by
  refine F.ok sc_require_count (fun vs H Q E h => ?_) (fun cdv A outer s H vs Q E hr h => ?_)
  · obtain ⟨a, wk, n, nm, ws, S, rfl, _⟩ := h
    rfl
  · obtain ⟨a, wk, n, nm, ws, S, rfl, he, l1, hn, k⟩ := h
    obtain ⟨dx, t, u, v, h1, h2, h3, h4⟩ := id he.ob
    have hc := cnt_le S ws.length
    refine ⟨_, (pss_one (ps_if (pt_not (pt_val (pe_d D_is_up_to (hr.mono (by decide)) (pa_cons (pv 0) (pa_cons (pe_callB (M_Edition_len.len (hr.mono (by decide))) (by rfl) T.b_len PySem.boot_len (pa_cons (pv 1) pa_nil)) pa_nil))))) (pss_one ps_never) pss_nil)), ?_⟩
    refine ⟨_, rfl, _, rfl, a, dx, _, rfl, h1, a, wk, nm, ws, S, rfl, he, cnt S ws.length, rfl, by omega, _, _, rfl, _, rfl, ?_⟩
    rw [decide_eq_true (show (0 : Int) ≤ (n : Int) ∧ (n : Int) ≤ (cnt S ws.length : Nat) from ⟨by omega, by omega⟩)]
    exact k
def spReqCut (CW : Addr) : Sp := fun vs H Q _ => ∃ (wk : Addr) (n : Nat) (nm : Str) (ws : List Str), vs = [.int n, .ref wk] ∧ WkAt CW H wk nm ws ∧ ws.length ≤ 60 ∧ n ≤ ws.length ∧ Q .non H
abbrev s_require_cut : Stmt := top 22
theorem sc_require_cut : FnScope ["cut", "work"] ["cut", "work"] (defScope s_require_cut) := ⟨rfl, rfl, rfl, by decide +kernel, rfl, by decide +kernel, by decide +kernel⟩
theorem ok_req_cut {CW fU fL : Addr} {fdU fdL : FuncData} (F : Fun K "require_cut" "require_cut" s_require_cut f fd) (T : Blt mg) (D_is_up_to : DefOk P w K mg base 2 "is_up_to" fU fdU ["x", "most"] spUpTo) (M_Work_len : MetOk P w K mg base 1 CW "__len__" fL fdL ["self"] (spWkLen CW)) :
    FnOk P w K mg base CX0 3 f fd ["cut", "work"] (spReqCut CW) := by
  refine F.ok sc_require_cut (fun vs H Q E h => ?_) (fun cdv A outer s H vs Q E hr h => ?_)
  · obtain ⟨wk, n, nm, ws, rfl, _⟩ := h
    rfl
  · obtain ⟨wk, n, nm, ws, rfl, kw, l1, hn, k⟩ := h
    obtain ⟨dx, t, d, h1, h2, h3⟩ := id kw.ob
    refine ⟨_, (pss_one (ps_if (pt_not (pt_val (pe_d D_is_up_to (hr.mono (by decide)) (pa_cons (pv 0) (pa_cons (pe_callB (M_Work_len.len (hr.mono (by decide))) (by rfl) T.b_len PySem.boot_len (pa_cons (pv 1) pa_nil)) pa_nil))))) (pss_one ps_never) pss_nil)), ?_⟩
    refine ⟨_, rfl, _, rfl, wk, dx, _, rfl, h1, wk, nm, ws, rfl, kw, ws.length, rfl, by omega, _, _, rfl, _, rfl, ?_⟩
    rw [decide_eq_true (show (0 : Int) ≤ (n : Int) ∧ (n : Int) ≤ (ws.length : Nat) from ⟨by omega, by omega⟩)]
    exact k
def spCutB (CW CE : Addr) : Sp := fun vs H Q _ => ∃ (a wk : Addr) (n x : Nat) (nm : Str) (ws : List Str) (S : Nat → Bool), vs = [.ref a, .int n] ∧ EdAt CW CE H a wk nm ws S ∧ ws.length ≤ 60 ∧ (cutsL ws.length S)[n]? = some x ∧ Q (.int x) H
abbrev s_Edition_cut_behind : Stmt := inClass (top 18) 2
theorem sc_Edition_cut_behind : FnScope ["self", "count"] ["self", "count"] (defScope s_Edition_cut_behind) := ⟨rfl, rfl, rfl, by decide +kernel, rfl, by decide +kernel, by decide +kernel⟩
theorem ok_cutb {CW CE fR : Addr} {fdR : FuncData} (F : Fun K "cut_behind" "Edition.cut_behind" s_Edition_cut_behind f fd) (W : EdTxt K CE) (D_require_count : DefOk P w K mg base 3 "require_count" fR fdR ["count", "edition"] (spReqCount CW CE)) :
    FnOk P w K mg base CX0 4 f fd ["self", "count"] (spCutB CW CE) := by
  refine F.ok sc_Edition_cut_behind (fun vs H Q E h => ?_) (fun cdv A outer s H vs Q E hr h => ?_)
  · obtain ⟨a, wk, n, x, nm, ws, S, rfl, _⟩ := h
    rfl
  · obtain ⟨a, wk, n, x, nm, ws, S, rfl, he, l1, hx, k⟩ := h
    obtain ⟨dx, t, u, v, h1, h2, h3, h4⟩ := id he.ob
    have hn : n ≤ cnt S ws.length := by
      have := (List.getElem?_eq_some_iff.mp hx).1
      rw [cutsL_len] at this
      omega
    refine ⟨_, (pss_cons (ps_expr (pe_d D_require_count (hr.mono (by decide)) (pa_cons (pv 1) (pa_cons (pv 0) pa_nil))))
        (pss_one (ps_ret (pe_ix ix_tup (pe_fld (pv 0) rfl) (pv 1) (fun _ _ => rfl))))), ?_⟩
    refine ⟨_, rfl, _, rfl, a, wk, n, nm, ws, S, rfl, he, l1, hn, ?_⟩
    exact ⟨_, rfl, a, CE, dx, _, _, rfl, h1, W.cl, W.nC, ed_cuts _ _ _ _, _, rfl, u, _, _, _, rfl, rfl, SqT.of h3, atI_nat (nts_at hx), k⟩
def spCountAt (CW CE : Addr) : Sp := fun vs H Q _ => ∃ (a wk : Addr) (c : Nat) (nm : Str) (ws : List Str) (S : Nat → Bool), vs = [.ref a, .int c] ∧ EdAt CW CE H a wk nm ws S ∧ ws.length ≤ 60 ∧ c ≤ ws.length ∧ Q (.int (cnt S c : Nat)) H
abbrev s_Edition_count_at : Stmt := inClass (top 18) 3
theorem sc_Edition_count_at : FnScope ["self", "cut"] ["self", "cut"] (defScope s_Edition_count_at) := ⟨rfl, rfl, rfl, by decide +kernel, rfl, by decide +kernel, by decide +kernel⟩
theorem ok_count_at {CW CE fR : Addr} {fdR : FuncData} (F : Fun K "count_at" "Edition.count_at" s_Edition_count_at f fd) (W : EdTxt K CE) (D_require_cut : DefOk P w K mg base 3 "require_cut" fR fdR ["cut", "work"] (spReqCut CW)) :
    FnOk P w K mg base CX0 4 f fd ["self", "cut"] (spCountAt CW CE) := by
  refine F.ok sc_Edition_count_at (fun vs H Q E h => ?_) (fun cdv A outer s H vs Q E hr h => ?_)
  · obtain ⟨a, wk, c, nm, ws, S, rfl, _⟩ := h
    rfl
  · obtain ⟨a, wk, c, nm, ws, S, rfl, he, l1, hc, k⟩ := h
    obtain ⟨dx, t, u, v, h1, h2, h3, h4⟩ := id he.ob
    refine ⟨_, (pss_cons (ps_expr (pe_d D_require_cut (hr.mono (by decide)) (pa_cons (pv 1) (pa_cons (pe_fld (pv 0) rfl) pa_nil))))
        (pss_one (ps_ret (pe_ix ix_tup (pe_fld (pv 0) rfl) (pv 1) (fun _ _ => rfl))))), ?_⟩
    refine ⟨_, rfl, _, rfl, a, CE, dx, _, _, rfl, h1, W.cl, W.nK, ed_work _ _ _ _, wk, c, nm, ws, rfl, he.wk, l1, hc, ?_⟩
    exact ⟨_, rfl, a, CE, dx, _, _, rfl, h1, W.cl, W.nN, ed_counts _ _ _ _, _, rfl, v, _, _, _, rfl, rfl, SqT.of h4, atI_nat (nts_at (counts_at' S hc)), k⟩
def spKernel (CW CE : Addr) : Sp := fun vs H Q _ => ∃ (a wk : Addr) (c : Nat) (nm : Str) (ws : List Str) (S : Nat → Bool), vs = [.ref a, .int c] ∧ EdAt CW CE H a wk nm ws S ∧ ws.length ≤ 60 ∧ c ≤ ws.length ∧ Q (.int (ker S c : Nat)) H
abbrev s_Edition_kernel : Stmt := inClass (top 18) 4
theorem sc_Edition_kernel : FnScope ["self", "cut"] ["self", "cut"] (defScope s_Edition_kernel) := ⟨rfl, rfl, rfl, by decide +kernel, rfl, by decide +kernel, by decide +kernel⟩
theorem ok_kernel {CW CE fB fA : Addr} {fdB fdA : FuncData} (F : Fun K "kernel" "Edition.kernel" s_Edition_kernel f fd) (M_Edition_cut_behind : MetOk P w K mg base 4 CE "cut_behind" fB fdB ["self", "count"] (spCutB CW CE)) (M_Edition_count_at : MetOk P w K mg base 4 CE "count_at" fA fdA ["self", "cut"] (spCountAt CW CE)) :
    FnOk P w K mg base CX0 5 f fd ["self", "cut"] (spKernel CW CE) := by
  refine F.ok sc_Edition_kernel (fun vs H Q E h => ?_) (fun cdv A outer s H vs Q E hr h => ?_)
  · obtain ⟨a, wk, c, nm, ws, S, rfl, _⟩ := h
    rfl
  · obtain ⟨a, wk, c, nm, ws, S, rfl, he, l1, hc, k⟩ := h
    obtain ⟨dx, t, u, v, h1, h2, h3, h4⟩ := id he.ob
    refine ⟨_, (pss_one (ps_ret (pe_m M_Edition_cut_behind (hr.mono (by decide)) (pv 0) (pa_cons (pe_m M_Edition_count_at (hr.mono (by decide)) (pv 0) (pa_cons (pv 1) pa_nil)) pa_nil)))), ?_⟩
    refine ⟨_, rfl, a, dx, _, rfl, h1, ed_no _ _ _ _ (by decide +kernel) (by decide +kernel) (by decide +kernel) (by decide +kernel), _, rfl, a, dx, _, rfl, h1, ed_no _ _ _ _ (by decide +kernel) (by decide +kernel) (by decide +kernel) (by decide +kernel), _, rfl, a, wk, c, nm, ws, S, rfl, he, l1, hc, ?_⟩
    exact ⟨a, wk, _, _, nm, ws, S, rfl, he, l1, cuts_at S hc, k⟩
end
end Lm

namespace Lm
open PySem L2
theorem EdAt.congr {CW CE : Addr} {H : Hp} {a wk : Addr} {nm : Str} {ws : List Str} {S T : Nat → Bool} (k : EdAt CW CE H a wk nm ws S) (h : ∀ i < ws.length, S i = T i) : EdAt CW CE H a wk nm ws T := by
  obtain ⟨⟨dx, t, u, v, h1, h2, h3, h4⟩, h5⟩ := k
  have e : ∀ c ≤ ws.length, idx c S = idx c T := fun c hc => List.filter_congr fun i hi => h i (by have := List.mem_range.mp hi; omega)
  have e1 : cutsL ws.length S = cutsL ws.length T := by unfold cutsL; rw [e _ (Nat.le_refl _)]
  have e2 : countsL ws.length S = countsL ws.length T := by
    unfold countsL
    refine List.map_congr_left fun c hc => ?_
    have := List.mem_range.mp hc
    unfold cnt
    rw [e c (by omega)]
  exact ⟨⟨dx, t, u, v, h1, by rw [← pick_congr h]; exact h2, by rw [← e1]; exact h3, by rw [← e2]; exact h4⟩, h5⟩
section
variable {P : Program} {w : World} {K : PySem.W.Frag} {mg : Str → Option Value} {base : Heap} {f : Addr} {fd : FuncData}
structure WkNe (K : PySem.W.Frag) (C : Addr) : Prop where
  ne_Work : PySem.W.findIn K (.ref C) "__ne__" = some (some (.builtin "object.__ne__"))
  ob_Work : PySem.W.subIn K (.ref C) (.type "object") = some true
def spOneW (CW CE : Addr) : Sp := fun vs H Q _ => ∃ (a b wk wk' : Addr) (nm : Str) (ws : List Str) (S T : Nat → Bool), vs = [.ref a, .ref b] ∧ EdAt CW CE H a wk nm ws S ∧ EdAt CW CE H b wk' nm ws T ∧ WOk ws ∧ Q .non H
abbrev s_require_one_work : Stmt := top 23
theorem sc_require_one_work : FnScope ["one", "other"] ["one", "other"] (defScope s_require_one_work) := ⟨rfl, rfl, rfl, by decide +kernel, rfl, by decide +kernel, by decide +kernel⟩
theorem ok_onew {CW CE fE : Addr} {fdE : FuncData} (F : Fun K "require_one_work" "require_one_work" s_require_one_work f fd) (W : EdTxt K CE) (T : WkNe K CW) (M_Work_eq : MetOk P w K mg base 1 CW "__eq__" fE fdE ["self", "other"] (spWkEq CW)) :
    FnOk P w K mg base CX0 3 f fd ["one", "other"] (spOneW CW CE) := by
  refine F.ok sc_require_one_work (fun vs H Q E h => ?_) (fun cdv A outer s H vs Q E hr h => ?_)
  · obtain ⟨a, b, wk, wk', nm, ws, S, U, rfl, _⟩ := h
    rfl
  · obtain ⟨a, b, wk, wk', nm, ws, S, U, rfl, he, hf, hw, k⟩ := h
    obtain ⟨dx, t, u, v, h1, h2, h3, h4⟩ := id he.ob
    obtain ⟨dy, t', u', v', g1, g2, g3, g4⟩ := id hf.ob
    obtain ⟨dw, tw, ew, o1, _, _⟩ := id he.wk.ob
    obtain ⟨dw', tw', ew', o1', _, _⟩ := id hf.wk.ob
    refine ⟨_, (pss_one (ps_if (pt_cmpR (M_Work_eq.ne T.ne_Work T.ob_Work (hr.mono (by decide))) (pe_fld (pv 0) rfl) (pe_fld (pv 1) rfl) (nomark _)) (pss_one ps_never) pss_nil)), ?_⟩
    refine ⟨_, rfl, a, CE, dx, _, _, rfl, h1, W.cl, W.nK, ed_work _ _ _ _, _, rfl, b, CE, dy, _, _, rfl, g1, W.cl, W.nK, ed_work _ _ _ _, ?_⟩
    refine ⟨wk, dw, _, wk', dw', _, rfl, rfl, o1, o1', wk, wk', nm, nm, ws, ws, rfl, he.wk, hf.wk, hw.ok.wd, hw.ok.wd, ?_⟩
    rw [decide_eq_true (show nm = nm ∧ ws = ws from ⟨rfl, rfl⟩)]
    exact ⟨true, rfl, _, rfl, k⟩
/-- both editions are of equal works; what is made is of the first one's -/
def spJoin (CW CE : Addr) (op : Bool → Bool → Bool) : Sp := fun vs H Q _ => ∃ (a b wk wk' : Addr) (nm : Str) (ws : List Str) (S T : Nat → Bool), vs = [.ref a, .ref b] ∧ EdAt CW CE H a wk nm ws S ∧ EdAt CW CE H b wk' nm ws T ∧ WOk ws ∧
  ∀ p H', H p = none → Same H H' → EdAt CW CE H' p wk nm ws (fun i => op (S i) (T i)) → Q (.ref p) H'
abbrev s_Edition_and : Stmt := inClass (top 18) 8
theorem sc_Edition_and : FnScope ["self", "other", "word"] ["self", "other"] (defScope s_Edition_and) := ⟨rfl, rfl, rfl, by decide +kernel, rfl, by decide +kernel, by decide +kernel⟩
theorem ok_and {CW CE fO fE : Addr} {fdO fdE : FuncData} (F : Fun K "__and__" "Edition.__and__" s_Edition_and f fd) (W : EdTxt K CE) (D_require_one_work : DefOk P w K mg base 3 "require_one_work" fO fdO ["one", "other"] (spOneW CW CE))
    (K_Edition : ClsOk P w K mg base 4 "Edition" CE fE fdE ["self", "work", "passages"] (spEdInit CW CE)) : FnOk P w K mg base CX0 6 f fd ["self", "other"] (spJoin CW CE fun a b => a && b) := by
  refine F.ok sc_Edition_and (fun vs H Q E h => ?_) (fun cdv A outer s H vs Q E hr h => ?_)
  · obtain ⟨a, b, wk, wk', nm, ws, S, U, rfl, _⟩ := h
    rfl
  · obtain ⟨a, b, wk, wk', nm, ws, S, U, rfl, he, hf, hw, k⟩ := h
    obtain ⟨dx, t, u, v, h1, h2, h3, h4⟩ := id he.ob
    obtain ⟨dy, t', u', v', g1, g2, g3, g4⟩ := id hf.ob
    refine ⟨_, (pss_cons (ps_expr (pe_d D_require_one_work (hr.mono (by decide)) (pa_cons (pv 0) (pa_cons (pv 1) pa_nil))))
        (pss_one (ps_ret (pe_mk K_Edition (hr.mono (by decide)) (by exact (pa_cons (pe_fld (pv 0) rfl) (pa_cons (pe_lc (own := [("word", 2)]) (g := gName 2) (tt := (tTest (tOp (rIn K false) (tVar 2) (tFld K (tVar 1) "words")))) (te := (tVar 2)) rfl sc_Edition_and.nd (pi_tup (pe_fld (pv 0) rfl)) (blkOk_by (own := [("word", 2)]) (by kernel_rfl)) (fun _ _ _ _ _ => (pg_name (i := 2) sc_Edition_and.nd rfl (by first | exact Or.inl rfl | exact Or.inr rfl))) (fun _ _ _ _ _ => by exact (pts_one (pt_cmpR op_in_seq (pv 2) (pe_fld (pv 1) rfl) (by rfl)))) (fun _ _ _ _ _ => by exact (pv 2))) pa_nil))))))), ?_⟩
    refine ⟨_, rfl, _, rfl, a, b, wk, wk', nm, ws, S, U, rfl, he, hf, hw, ?_⟩
    refine ⟨_, rfl, a, CE, dx, _, _, rfl, h1, W.cl, W.nK, ed_work _ _ _ _, ?_⟩
    refine ⟨_, rfl, a, CE, dx, _, _, rfl, h1, W.cl, W.nW, ed_words _ _ _ _, t, rfl, ⟨_, SqT.of h2⟩, fun D nD => ?_⟩
    refine lc_tup (K := K) (a := t) (xs := (pick ws S).map V.str) (fun i H' => Same H H' ∧ H' D = some (.lst ((((idx ws.length S).take i).filter U).map fun j => V.str (ws.getD j no)))) ⟨Same.upd' nD, upd_same⟩ (fun i H' _ p => SqT.of (p.1 _ _ h2)) ?_ ?_
    · rintro i x H' hx ⟨e, hD⟩
      have hi : i < (idx ws.length S).length := by
        have := (List.getElem?_eq_some_iff.mp hx).1
        unfold pick at this
        simpa using this
      obtain ⟨j, hj⟩ : ∃ j, (idx ws.length S)[i]? = some j := ⟨_, List.getElem?_eq_getElem hi⟩
      have hjm := idx_mem.mp (List.mem_of_getElem? hj)
      rw [pick_at hj] at hx
      cases (Option.some.inj hx)
      refine ⟨rfl, _, rfl, _, rfl, b, CE, dy, _, _, rfl, e _ _ g1, W.cl, W.nW, ed_words _ _ _ _, t', _, rfl, .inr (SqT.of (e _ _ g2)), rfl, strs_flat _, _, rfl, ?_⟩
      show if inV (.str (ws.getD j no)) ((pick ws U).map V.str) = true then _ else _
      rw [strs_in, pick_in hw.ok.nd hjm.1]
      have hlen : (((idx ws.length S).take i).filter U).length ≤ 60 := Nat.le_trans (List.length_filter_le _ _) (Nat.le_trans (by simp; omega) (Nat.le_trans (idx_len ws.length S) hw.l1))
      refine ite2 (fun hU => ?_) (fun hU => ?_)
      · refine ⟨_, rfl, _, hD, small1000 (by rw [List.length_map]; omega), Same.mut e nD, ?_⟩
        rw [upd_same, List.take_succ, hj]
        simp [hU]
      · refine ⟨e, ?_⟩
        rw [hD, List.take_succ, hj]
        simp [hU]
    · rintro H' ⟨e, hD⟩
      have hl : ((pick ws S).map V.str).length = (idx ws.length S).length := by rw [List.length_map]; unfold pick; rw [List.length_map]
      rw [hl, List.take_length, filter_and] at hD
      refine mkEd (S := fun i => S i && U i) (he.wk.same e) hw (.inl ?_) fun x H2 nx e2 hx => k x H2 (Same.free e nx) (Same.trans e e2) hx
      rw [hD]
      unfold pick
      rw [List.map_map]
      rfl
abbrev s_Edition_sub : Stmt := inClass (top 18) 10
theorem sc_Edition_sub : FnScope ["self", "other", "word"] ["self", "other"] (defScope s_Edition_sub) := ⟨rfl, rfl, rfl, by decide +kernel, rfl, by decide +kernel, by decide +kernel⟩
theorem ok_sub {CW CE fO fE : Addr} {fdO fdE : FuncData} (F : Fun K "__sub__" "Edition.__sub__" s_Edition_sub f fd) (W : EdTxt K CE) (D_require_one_work : DefOk P w K mg base 3 "require_one_work" fO fdO ["one", "other"] (spOneW CW CE))
    (K_Edition : ClsOk P w K mg base 4 "Edition" CE fE fdE ["self", "work", "passages"] (spEdInit CW CE)) : FnOk P w K mg base CX0 6 f fd ["self", "other"] (spJoin CW CE fun a b => a && !b) := by
  refine F.ok sc_Edition_sub (fun vs H Q E h => ?_) (fun cdv A outer s H vs Q E hr h => ?_)
  · obtain ⟨a, b, wk, wk', nm, ws, S, U, rfl, _⟩ := h
    rfl
  · obtain ⟨a, b, wk, wk', nm, ws, S, U, rfl, he, hf, hw, k⟩ := h
    obtain ⟨dx, t, u, v, h1, h2, h3, h4⟩ := id he.ob
    obtain ⟨dy, t', u', v', g1, g2, g3, g4⟩ := id hf.ob
    refine ⟨_, (pss_cons (ps_expr (pe_d D_require_one_work (hr.mono (by decide)) (pa_cons (pv 0) (pa_cons (pv 1) pa_nil))))
        (pss_one (ps_ret (pe_mk K_Edition (hr.mono (by decide)) (by exact (pa_cons (pe_fld (pv 0) rfl) (pa_cons (pe_lc (own := [("word", 2)]) (g := gName 2) (tt := (tTest (tOp (rIn K true) (tVar 2) (tFld K (tVar 1) "words")))) (te := (tVar 2)) rfl sc_Edition_sub.nd (pi_tup (pe_fld (pv 0) rfl)) (blkOk_by (own := [("word", 2)]) (by kernel_rfl)) (fun _ _ _ _ _ => (pg_name (i := 2) sc_Edition_sub.nd rfl (by first | exact Or.inl rfl | exact Or.inr rfl))) (fun _ _ _ _ _ => by exact (pts_one (pt_cmpR op_notIn_seq (pv 2) (pe_fld (pv 1) rfl) (by rfl)))) (fun _ _ _ _ _ => by exact (pv 2))) pa_nil))))))), ?_⟩
    refine ⟨_, rfl, _, rfl, a, b, wk, wk', nm, ws, S, U, rfl, he, hf, hw, ?_⟩
    refine ⟨_, rfl, a, CE, dx, _, _, rfl, h1, W.cl, W.nK, ed_work _ _ _ _, ?_⟩
    refine ⟨_, rfl, a, CE, dx, _, _, rfl, h1, W.cl, W.nW, ed_words _ _ _ _, t, rfl, ⟨_, SqT.of h2⟩, fun D nD => ?_⟩
    refine lc_tup (K := K) (a := t) (xs := (pick ws S).map V.str) (fun i H' => Same H H' ∧ H' D = some (.lst ((((idx ws.length S).take i).filter fun j => !U j).map fun j => V.str (ws.getD j no)))) ⟨Same.upd' nD, upd_same⟩ (fun i H' _ p => SqT.of (p.1 _ _ h2)) ?_ ?_
    · rintro i x H' hx ⟨e, hD⟩
      have hi : i < (idx ws.length S).length := by
        have := (List.getElem?_eq_some_iff.mp hx).1
        unfold pick at this
        simpa using this
      obtain ⟨j, hj⟩ : ∃ j, (idx ws.length S)[i]? = some j := ⟨_, List.getElem?_eq_getElem hi⟩
      have hjm := idx_mem.mp (List.mem_of_getElem? hj)
      rw [pick_at hj] at hx
      cases (Option.some.inj hx)
      refine ⟨rfl, _, rfl, _, rfl, b, CE, dy, _, _, rfl, e _ _ g1, W.cl, W.nW, ed_words _ _ _ _, t', _, rfl, .inr (SqT.of (e _ _ g2)), rfl, strs_flat _, _, rfl, ?_⟩
      show if (!inV (.str (ws.getD j no)) ((pick ws U).map V.str)) = true then _ else _
      rw [strs_in, pick_in hw.ok.nd hjm.1]
      have hlen : (((idx ws.length S).take i).filter fun j => !U j).length ≤ 60 := Nat.le_trans (List.length_filter_le _ _) (Nat.le_trans (by simp; omega) (Nat.le_trans (idx_len ws.length S) hw.l1))
      refine ite2 (fun hU => ?_) (fun hU => ?_)
      · refine ⟨_, rfl, _, hD, small1000 (by rw [List.length_map]; omega), Same.mut e nD, ?_⟩
        have hU : U j = false := by simpa using hU
        rw [upd_same, List.take_succ, hj]
        simp [hU]
      · refine ⟨e, ?_⟩
        have hU : U j = true := by simpa using hU
        rw [hD, List.take_succ, hj]
        simp [hU]
    · rintro H' ⟨e, hD⟩
      have hl : ((pick ws S).map V.str).length = (idx ws.length S).length := by rw [List.length_map]; unfold pick; rw [List.length_map]
      rw [hl, List.take_length, filter_and] at hD
      refine mkEd (S := fun i => S i && !U i) (he.wk.same e) hw (.inl ?_) fun x H2 nx e2 hx => k x H2 (Same.free e nx) (Same.trans e e2) hx
      rw [hD]
      unfold pick
      rw [List.map_map]
      rfl
abbrev s_Edition_or : Stmt := inClass (top 18) 9
theorem sc_Edition_or : FnScope ["self", "other", "either", "word"] ["self", "other"] (defScope s_Edition_or) := ⟨rfl, rfl, rfl, by decide +kernel, rfl, by decide +kernel, by decide +kernel⟩
theorem ok_or {CW CE fO fE : Addr} {fdO fdE : FuncData} (F : Fun K "__or__" "Edition.__or__" s_Edition_or f fd) (W : EdTxt K CE) (W' : WkTxt K CW) (D_require_one_work : DefOk P w K mg base 3 "require_one_work" fO fdO ["one", "other"] (spOneW CW CE))
    (K_Edition : ClsOk P w K mg base 4 "Edition" CE fE fdE ["self", "work", "passages"] (spEdInit CW CE)) : FnOk P w K mg base CX0 6 f fd ["self", "other"] (spJoin CW CE fun a b => a || b) := by
  refine F.ok sc_Edition_or (fun vs H Q E h => ?_) (fun cdv A outer s H vs Q E hr h => ?_)
  · obtain ⟨a, b, wk, wk', nm, ws, S, U, rfl, _⟩ := h
    rfl
  · obtain ⟨a, b, wk, wk', nm, ws, S, U, rfl, he, hf, hw, k⟩ := h
    obtain ⟨dx, t, u, v, h1, h2, h3, h4⟩ := id he.ob
    obtain ⟨dy, t', u', v', g1, g2, g3, g4⟩ := id hf.ob
    obtain ⟨dw, tw, ew, o1, o2, o3⟩ := id he.wk.ob
    refine ⟨_, (pss_cons (ps_expr (pe_d D_require_one_work (hr.mono (by decide)) (pa_cons (pv 0) (pa_cons (pv 1) pa_nil))))
        (pss_cons (ps_setLc (i := 2) (own := [("word", 3)]) (g := gName 3) (tt := (tOr (tTest (tOp (rIn K false) (tVar 3) (tFld K (tVar 0) "words"))) (tTest (tOp (rIn K false) (tVar 3) (tFld K (tVar 1) "words"))))) (te := (tVar 3)) rfl sc_Edition_or.nd rfl rfl (sw_true rfl rfl rfl (by decide +kernel)) (pi_tup (pe_fld (pe_fld (pv 0) rfl) rfl)) (blkOk_by (own := [("word", 3)]) (by kernel_rfl)) (fun _ _ _ _ _ => (pg_name (i := 3) sc_Edition_or.nd rfl (by first | exact Or.inl rfl | exact Or.inr rfl))) (fun _ _ _ _ _ => by exact (pts_one (PW.pt (pw_or (pt_cmpR op_in_seq (pv 3) (pe_fld (pv 0) rfl) (by rfl)) (pw_or1 (pt_cmpR op_in_seq (pv 3) (pe_fld (pv 1) rfl) (by rfl))))))) (fun _ _ _ _ _ => by exact (pv 3)))
        (pss_one (ps_ret (pe_mk K_Edition (hr.mono (by decide)) (pa_cons (pe_fld (pv 0) rfl) (pa_cons (pv 2) pa_nil))))))), ?_⟩
    refine ⟨_, rfl, _, rfl, a, b, wk, wk', nm, ws, S, U, rfl, he, hf, hw, ?_⟩
    refine ⟨_, rfl, a, CE, dx, _, _, rfl, h1, W.cl, W.nK, ed_work _ _ _ _, wk, CW, dw, _, _, rfl, o1, W'.cl, W'.nW, wk_words _ _ _, tw, rfl, ⟨_, SqT.of o2⟩, fun D nD => ?_⟩
    refine lc_tup (K := K) (a := tw) (xs := ws.map V.str) (fun i H' => Same H H' ∧ H' D = some (.lst (((List.range i).filter fun j => S j || U j).map fun j => V.str (ws.getD j no)))) ⟨Same.upd' nD, upd_same⟩ (fun i H' _ p => SqT.of (p.1 _ _ o2)) ?_ ?_
    · rintro i x H' hx ⟨e, hD⟩
      have hi : i < ws.length := by
        have := (List.getElem?_eq_some_iff.mp hx).1
        simpa using this
      rw [List.getElem?_map, nth_at hi] at hx
      cases (Option.some.inj hx)
      have hlen : ((List.range i).filter fun j => S j || U j).length ≤ 60 := Nat.le_trans (List.length_filter_le _ _) (by have := hw.l1; simp; omega)
      have no_ : (S i || U i) = false → Same H H' ∧ H' D = some (.lst (((List.range (i + 1)).filter fun j => S j || U j).map fun j => V.str (ws.getD j no))) := fun hb => ⟨e, by rw [hD, List.range_succ, List.filter_append]; simp [hb]⟩
      have yes_ : (S i || U i) = true → Same H (upd H' D (.lst ((((List.range i).filter fun j => S j || U j).map fun j => V.str (ws.getD j no)) ++ [.str (ws.getD i no)]))) ∧ (upd H' D (.lst ((((List.range i).filter fun j => S j || U j).map fun j => V.str (ws.getD j no)) ++ [.str (ws.getD i no)]))) D = some (.lst (((List.range (i + 1)).filter fun j => S j || U j).map fun j => V.str (ws.getD j no))) :=
        fun hb => ⟨Same.mut e nD, by rw [upd_same, List.range_succ, List.filter_append]; simp [hb]⟩
      refine ⟨rfl, _, rfl, _, rfl, a, CE, dx, _, _, rfl, e _ _ h1, W.cl, W.nW, ed_words _ _ _ _, t, _, rfl, .inr (SqT.of (e _ _ h2)), rfl, strs_flat _, _, rfl, ?_⟩
      show if inV (.str (ws.getD i no)) ((pick ws S).map V.str) = true then _ else _
      rw [strs_in, pick_in hw.ok.nd hi]
      refine ite2 (fun hS => ?_) (fun hS => ?_)
      · exact ⟨_, rfl, _, hD, small1000 (by rw [List.length_map]; omega), yes_ (by simp [hS])⟩
      · refine ⟨_, rfl, _, rfl, b, CE, dy, _, _, rfl, e _ _ g1, W.cl, W.nW, ed_words _ _ _ _, t', _, rfl, .inr (SqT.of (e _ _ g2)), rfl, strs_flat _, _, rfl, ?_⟩
        show if inV (.str (ws.getD i no)) ((pick ws U).map V.str) = true then _ else _
        rw [strs_in, pick_in hw.ok.nd hi]
        refine ite2 (fun hU => ?_) (fun hU => ?_)
        · exact ⟨_, rfl, _, hD, small1000 (by rw [List.length_map]; omega), yes_ (by simp [hU])⟩
        · exact no_ (by simp [hS, hU])
    · rintro H' ⟨e, hD⟩
      rw [List.length_map] at hD
      refine ⟨_, rfl, a, CE, dx, _, _, rfl, e _ _ h1, W.cl, W.nK, ed_work _ _ _ _, _, rfl, ?_⟩
      refine mkEd (S := fun i => S i || U i) (he.wk.same e) hw (.inl ?_) fun x H2 nx e2 hx => k x H2 (Same.free e nx) (Same.trans e e2) hx
      rw [hD]
      unfold pick
      rw [List.map_map]
      rfl
def spLe (CW CE : Addr) : Sp := fun vs H Q _ => ∃ (a b wk wk' : Addr) (nm : Str) (ws : List Str) (S T : Nat → Bool), vs = [.ref a, .ref b] ∧ EdAt CW CE H a wk nm ws S ∧ EdAt CW CE H b wk' nm ws T ∧ WOk ws ∧
  ∀ H', Same H H' → Q (.bl ((idx ws.length S).all T)) H'
abbrev s_Edition_le : Stmt := inClass (top 18) 11
theorem sc_Edition_le : FnScope ["self", "other", "word"] ["self", "other"] (defScope s_Edition_le) := ⟨rfl, rfl, rfl, by decide +kernel, rfl, by decide +kernel, by decide +kernel⟩
theorem ok_le {CW CE fO : Addr} {fdO : FuncData} (F : Fun K "__le__" "Edition.__le__" s_Edition_le f fd) (T : Blt mg) (W : EdTxt K CE) (D_require_one_work : DefOk P w K mg base 3 "require_one_work" fO fdO ["one", "other"] (spOneW CW CE)) :
    FnOk P w K mg base CX0 4 f fd ["self", "other"] (spLe CW CE) := by
  refine F.ok sc_Edition_le (fun vs H Q E h => ?_) (fun cdv A outer s H vs Q E hr h => ?_)
  · obtain ⟨a, b, wk, wk', nm, ws, S, U, rfl, _⟩ := h
    rfl
  · obtain ⟨a, b, wk, wk', nm, ws, S, U, rfl, he, hf, hw, k⟩ := h
    obtain ⟨dx, t, u, v, h1, h2, h3, h4⟩ := id he.ob
    obtain ⟨dy, t', u', v', g1, g2, g3, g4⟩ := id hf.ob
    refine ⟨_, (pss_cons (ps_expr (pe_d D_require_one_work (hr.mono (by decide)) (pa_cons (pv 0) (pa_cons (pv 1) pa_nil))))
        (pss_one (ps_ret (pe_callB (cr_all rfl) (by rfl) T.b_all (by decide +kernel) (by exact (pa_cons (pe_lc (own := [("word", 2)]) (g := gName 2) (tt := tYes) (te := (tOp (rIn K false) (tVar 2) (tFld K (tVar 1) "words"))) rfl sc_Edition_le.nd (pi_tup (pe_fld (pv 0) rfl)) (blkOk_by (own := [("word", 2)]) (by kernel_rfl)) (fun _ _ _ _ _ => (pg_name (i := 2) sc_Edition_le.nd rfl (by first | exact Or.inl rfl | exact Or.inr rfl))) (fun _ _ _ _ _ => pts_nil) (fun _ _ _ _ _ => by exact (pe_cmpR op_in_seq (pv 2) (pe_fld (pv 1) rfl) (by rfl)))) pa_nil)))))), ?_⟩
    refine ⟨_, rfl, _, rfl, a, b, wk, wk', nm, ws, S, U, rfl, he, hf, hw, ?_⟩
    refine ⟨_, rfl, a, CE, dx, _, _, rfl, h1, W.cl, W.nW, ed_words _ _ _ _, t, rfl, ⟨_, SqT.of h2⟩, fun D nD => ?_⟩
    refine lc_tup (K := K) (a := t) (xs := (pick ws S).map V.str) (fun i H' => Same H H' ∧ H' D = some (.lst ((((idx ws.length S).take i).map U).map V.bl))) ⟨Same.upd' nD, upd_same⟩ (fun i H' _ p => SqT.of (p.1 _ _ h2)) ?_ ?_
    · rintro i x H' hx ⟨e, hD⟩
      have hi : i < (idx ws.length S).length := by
        have := (List.getElem?_eq_some_iff.mp hx).1
        unfold pick at this
        simpa using this
      obtain ⟨j, hj⟩ : ∃ j, (idx ws.length S)[i]? = some j := ⟨_, List.getElem?_eq_getElem hi⟩
      have hjm := idx_mem.mp (List.mem_of_getElem? hj)
      rw [pick_at hj] at hx
      cases (Option.some.inj hx)
      refine ⟨rfl, _, rfl, _, rfl, b, CE, dy, _, _, rfl, e _ _ g1, W.cl, W.nW, ed_words _ _ _ _, t', _, rfl, .inr (SqT.of (e _ _ g2)), rfl, strs_flat _, _, hD, small1000 (by simp; have := idx_len ws.length S; have := hw.l1; omega), Same.mut e nD, ?_⟩
      rw [upd_same]
      show some (HO.lst (_ ++ [V.bl (inV (.str (ws.getD j no)) ((pick ws U).map V.str))])) = _
      rw [strs_in, pick_in hw.ok.nd hjm.1, List.take_succ, hj]
      simp
    · rintro H' ⟨e, hD⟩
      have hl : ((pick ws S).map V.str).length = (idx ws.length S).length := by rw [List.length_map]; unfold pick; rw [List.length_map]
      rw [hl, List.take_length] at hD
      refine ⟨_, _, rfl, SqL.of hD, ?_⟩
      have q := k H' e
      have e2 : ((idx ws.length S).map U).all id = (idx ws.length S).all U := by rw [List.all_map]; rfl
      rw [← e2] at q
      exact q
end
end Lm

namespace Lm
open PySem L2
/-! ### the law's own defs -/
def kerL (N : Nat) (S : Nat → Bool) : List Nat := (List.range (N + 1)).map (ker S)
theorem kerL_len (N : Nat) (S : Nat → Bool) : (kerL N S).length = N + 1 := by unfold kerL; simp
theorem kerL_at {N c : Nat} (S : Nat → Bool) (h : c ≤ N) : (kerL N S)[c]? = some (ker S c) := by
  unfold kerL
  rw [List.getElem?_map, List.getElem?_range (by omega)]
  rfl
theorem not_fresh {H H' : Hp} {p : Addr} (e : Same H H') (h : H' p = none) : H p = none := e.free h
theorem StAt.neL {H : Hp} {st c : Addr} (S : StAt H st c) : ∃ xs, H st = some (.lst xs) := let ⟨⟨_, _, _, h⟩, _, _⟩ := S; ⟨_, h⟩
section
variable {P : Program} {w : World} {K : PySem.W.Frag} {mg : Str → Option Value} {base : Heap} {f : Addr} {fd : FuncData}
def spBase (CW : Addr) : Sp := fun vs H Q _ => ∃ (st c : Addr) (m : Nat), vs = [.ref st, .int m] ∧ StAt H st c ∧ 1 ≤ m ∧ m ≤ 60 ∧ ∀ (t r wk tw : Addr) (ws : List Str) (H' : Hp), WOk ws → ws.length = m → H t = none → H r = none → H' t = some (.tup [.ref r, .ref wk, .ref tw]) → H' r = some (.lst (ws.map V.str)) →
  WkAt CW H' wk "a" ws → WkAt CW H' tw "a" ws → StAt H' st c → Kp st H H' → Q (.ref t) H'
abbrev s_base : Stmt := top 35
theorem sc_base : FnScope ["_law_state", "_law_many", "_law_rows"] ["_law_state", "_law_many"] (defScope s_base) := ⟨rfl, rfl, rfl, by decide +kernel, rfl, by decide +kernel, by decide +kernel⟩
theorem ok_base {CW fW fS : Addr} {fdW fdS : FuncData} (F : Fun K "_law_base" "_law_base" s_base f fd) (T : Blt mg) (D_some_words : DefOk P w K mg base 3 "_law_some_words" fS fdS ["_law_state", "_law_many"] spSomeW)
    (K_Work : ClsOk P w K mg base 2 "Work" CW fW fdW ["self", "name", "passages"] (spWkInit CW)) : FnOk P w K mg base CX0 4 f fd ["_law_state", "_law_many"] (spBase CW) := by
  refine F.ok sc_base (fun vs H Q E h => ?_) (fun cdv A outer s H vs Q E hr h => ?_)
  · obtain ⟨st, c, m, rfl, _⟩ := h
    rfl
  · obtain ⟨st, c, m, rfl, S, m0, m1, k⟩ := h
    refine ⟨_, (pss_cons (ps_set (i := 2) sc_base.nd rfl (by first | exact Or.inl rfl | exact Or.inr rfl) (pe_d D_some_words (hr.mono (by decide)) (pa_cons (pv 0) (pa_cons (pv 1) pa_nil))))
        (pss_one (ps_ret (pe_tup (pa_cons (pv 2) (pa_cons (pe_mk K_Work (hr.mono (by decide)) (pa_cons pe_str (pa_cons (pv 2) pa_nil))) (pa_cons (pe_mk K_Work (hr.mono (by decide)) (pa_cons pe_str (pa_cons (pe_callTy call_tuple_of (by rfl) T.b_tuple (by decide +kernel) (pa_cons (pv 2) pa_nil)) pa_nil))) pa_nil))))))), ?_⟩
    refine ⟨_, rfl, _, rfl, st, c, m, rfl, S, m1, fun r ws H1 nr hw S1 e1 hr1 => ?_⟩
    have hok : WOk ws := ⟨by rw [hw.len]; exact hw, by rw [hw.len]; omega, by rw [hw.len]; omega⟩
    obtain ⟨hrs, hrc⟩ := S.of_new nr
    refine ⟨_, rfl, _, rfl, ?_⟩
    refine mkWk (nm := "a") (by decide +kernel) hok (.inl hr1) fun wk H2 nwk e2 hwk => ?_
    refine ⟨_, rfl, r, _, rfl, .inl ⟨SqL.of (e2 _ _ hr1), fun q nq => ?_⟩⟩
    refine mkWk (nm := "a") (by decide +kernel) hok (.inr upd_same) fun tw H3 ntw e3 htw => ?_
    refine ⟨by show 3 ≤ sizeLine; decide, fun t nt => ?_⟩
    have e13 : Same H1 H3 := (e2.trans (Same.upd' nq)).trans e3
    have e23 : Same H2 H3 := (Same.upd' nq).trans e3
    have nt1 : H1 t = none := e13.free nt
    have hts : t ≠ st := (S1.of_new nt1).1
    refine k t r wk tw ws _ hok hw.len (e1.free hts nt1) nr upd_same ((Same.upd' nt) _ _ (e13 _ _ hr1)) ((hwk.same e23).same (Same.upd' nt)) (htw.same (Same.upd' nt)) ((S1.same e13).same (Same.upd' nt)) ((e1.trans (Kp.of e13)).trans (Kp.of (Same.upd' nt)))
def spEdn (CW CE : Addr) : Sp := fun vs H Q _ => ∃ (wk r l : Addr) (nm : Str) (ws : List Str) (S : Nat → Bool), vs = [.ref wk, .ref r, .ref l] ∧ WkAt CW H wk nm ws ∧ WOk ws ∧ H r = some (.lst (ws.map V.str)) ∧ H l = some (.lst (nts (idx ws.length S))) ∧
  ∀ p H', H p = none → Same H H' → EdAt CW CE H' p wk nm ws S → Q (.ref p) H'
abbrev s_edition : Stmt := top 36
theorem sc_edition : FnScope ["_law_base_here", "_law_rows", "_law_numbers", "_law_k"] ["_law_base_here", "_law_rows", "_law_numbers"] (defScope s_edition) := ⟨rfl, rfl, rfl, by decide +kernel, rfl, by decide +kernel, by decide +kernel⟩
theorem ok_edn {CW CE fE : Addr} {fdE : FuncData} (F : Fun K "_law_edition" "_law_edition" s_edition f fd) (K_Edition : ClsOk P w K mg base 4 "Edition" CE fE fdE ["self", "work", "passages"] (spEdInit CW CE)) : FnOk P w K mg base CX0 6 f fd ["_law_base_here", "_law_rows", "_law_numbers"] (spEdn CW CE) := by
  refine F.ok sc_edition (fun vs H Q E h => ?_) (fun cdv A outer s H vs Q E hr h => ?_)
  · obtain ⟨wk, r, l, nm, ws, S, rfl, _⟩ := h
    rfl
  · obtain ⟨wk, r, l, nm, ws, S, rfl, kw, hw, hrr, hl, k⟩ := h
    refine ⟨_, (pss_one (ps_ret (pe_mk K_Edition (hr.mono (by decide)) (by exact (pa_cons (pv 0) (pa_cons (pe_lc (own := [("_law_k", 3)]) (g := gName 3) (tt := tYes) (te := (tOp (rIxL K) (tVar 1) (tVar 3))) rfl sc_edition.nd (pi_list (pv 2)) (blkOk_by (own := [("_law_k", 3)]) (by kernel_rfl)) (fun _ _ _ _ _ => (pg_name (i := 3) sc_edition.nd rfl (by first | exact Or.inl rfl | exact Or.inr rfl))) (fun _ _ _ _ _ => pts_nil) (fun _ _ _ _ _ => by exact (pe_ix ix_list (pv 1) (pv 3) (fun _ _ => rfl)))) pa_nil)))))), ?_⟩
    refine ⟨_, rfl, _, rfl, l, rfl, ⟨_, SqL.of hl⟩, fun D nD => ?_⟩
    refine lc_list (K := K) (a := l) (xs := nts (idx ws.length S)) (fun i H' => Same H H' ∧ H' D = some (.lst (((idx ws.length S).take i).map fun j => V.str (ws.getD j no)))) ⟨Same.upd' nD, upd_same⟩ (fun i H' _ p => SqL.of (p.1 _ _ hl)) ?_ ?_
    · rintro i x H' hx ⟨e, hD⟩
      have hi : i < (idx ws.length S).length := by
        have := (List.getElem?_eq_some_iff.mp hx).1
        rw [nts_len] at this
        exact this
      obtain ⟨j, hj⟩ : ∃ j, (idx ws.length S)[i]? = some j := ⟨_, List.getElem?_eq_getElem hi⟩
      have hjm := idx_mem.mp (List.mem_of_getElem? hj)
      rw [nts_at hj] at hx
      cases (Option.some.inj hx)
      refine ⟨rfl, _, rfl, _, rfl, r, _, _, _, rfl, rfl, SqL.of (e _ _ hrr), atI_nat (by rw [List.getElem?_map, nth_at hjm.1]; rfl), _, hD, small1000 (by simp; have := idx_len ws.length S; have := hw.l1; omega), Same.mut e nD, ?_⟩
      rw [upd_same, List.take_succ, hj]
      simp
    · rintro H' ⟨e, hD⟩
      rw [nts_len, List.take_length] at hD
      refine mkEd (S := S) (kw.same e) hw (.inl ?_) fun x H2 nx e2 hx => k x H2 (Same.free e nx) (Same.trans e e2) hx
      rw [hD]
      unfold pick
      rw [List.map_map]
      rfl
end
end Lm

namespace Lm
open PySem L2
structure BltM (mg : Str → Option Value) : Prop extends Blt mg where
  b_min : mg "min" = none
/-! ### a place as it stands in the heap -/
def plF (e : Addr) (n : Nat) : List (Str × V) := [("edition", .ref e), ("count", .int n)]
theorem p_1 : (("count" : Str) == "edition") = false := by decide +kernel
theorem pl_edition (e : Addr) (n : Nat) : (plF e n).lookup ("edition" : Str) = some (.ref e) := by simp [plF, List.lookup]
theorem pl_count (e : Addr) (n : Nat) : (plF e n).lookup ("count" : Str) = some (.int n) := by simp [plF, List.lookup, p_1]
theorem pl_no (e : Addr) (n : Nat) {m : Str} (h1 : (m == "edition") = false) (h2 : (m == "count") = false) : (plF e n).lookup m = none := by simp [plF, List.lookup, h1, h2]
def q1 (e : Addr) : List (Str × V) := [("edition", .ref e)]
theorem putP1 (e : Addr) : putF "edition" (.ref e) [] = q1 e := rfl
theorem putP2 (e : Addr) (n : Nat) : putF "count" (.int n) (q1 e) = plF e n := by simp [putF, q1, plF, ne_b p_1]
/-- the place behind n passages of the edition at e, so at the cut x -/
structure PlAt (CW CE CP : Addr) (H : Hp) (p e wk : Addr) (nm : Str) (ws : List Str) (S : Nat → Bool) (n x : Nat) : Prop where
  ob : ∃ dx, H p = some (.ins CP dx (plF e n))
  ed : EdAt CW CE H e wk nm ws S
  ok : WOk ws
  at_ : (cutsL ws.length S)[n]? = some x
theorem PlAt.same {CW CE CP : Addr} {H H' : Hp} {p e wk : Addr} {nm : Str} {ws : List Str} {S : Nat → Bool} {n x : Nat} (k : PlAt CW CE CP H p e wk nm ws S n x) (s : Same H H') : PlAt CW CE CP H' p e wk nm ws S n x := by
  obtain ⟨⟨dx, h⟩, h2, h3, h4⟩ := k
  exact ⟨⟨dx, s _ _ h⟩, h2.same s, h3, h4⟩
theorem PlAt.kp {CW CE CP st : Addr} {H H' : Hp} {p e wk : Addr} {nm : Str} {ws : List Str} {S : Nat → Bool} {n x : Nat} {xs : List V} (k : PlAt CW CE CP H p e wk nm ws S n x) (s : Kp st H H') (hs : H st = some (.lst xs)) : PlAt CW CE CP H' p e wk nm ws S n x := by
  obtain ⟨⟨dx, h⟩, h2, h3, h4⟩ := k
  exact ⟨⟨dx, s _ _ (ne_of h hs (by intro z; cases z)) h⟩, h2.kp s hs, h3, h4⟩
structure PlTxt (K : PySem.W.Frag) (C : Addr) : Prop where
  cl : Cls K C
  nE : NoAttr K C "edition"
  nC : NoAttr K C "count"
section
variable {P : Program} {w : World} {K : PySem.W.Frag} {mg : Str → Option Value} {base : Heap} {f : Addr} {fd : FuncData}
def spPlInit (CW CE CP : Addr) : Sp := fun vs H Q _ => ∃ (p dx e wk : Addr) (nm : Str) (ws : List Str) (S : Nat → Bool) (n x : Nat), vs = [.ref p, .ref e, .int n] ∧ H p = some (.ins CP dx []) ∧ EdAt CW CE H e wk nm ws S ∧ WOk ws ∧ (cutsL ws.length S)[n]? = some x ∧ e ≠ p ∧ wk ≠ p ∧
  ∀ H', PlAt CW CE CP H' p e wk nm ws S n x → Kp p H H' → Q .non H'
theorem EdAt.kpi {CW CE C' p dx : Addr} {H H' : Hp} {a wk : Addr} {nm : Str} {ws : List Str} {S : Nat → Bool} {fs : List (Str × V)} (k : EdAt CW CE H a wk nm ws S) (e : Kp p H H') (hs : H p = some (.ins C' dx fs)) (ha : a ≠ p) (hw : wk ≠ p) : EdAt CW CE H' a wk nm ws S := by
  obtain ⟨⟨dx, t, u, v, h1, h2, h3, h4⟩, h5⟩ := k
  exact ⟨⟨dx, t, u, v, e _ _ ha h1, e _ _ (ne_of h2 hs (by intro z; cases z)) h2, e _ _ (ne_of h3 hs (by intro z; cases z)) h3, e _ _ (ne_of h4 hs (by intro z; cases z)) h4⟩, h5.kpi e hs hw⟩
theorem cnt_of_cuts {N n x : Nat} {S : Nat → Bool} (h : (cutsL N S)[n]? = some x) : n ≤ cnt S N := by
  have := (List.getElem?_eq_some_iff.mp h).1
  rw [cutsL_len] at this
  omega
abbrev s_Place_init : Stmt := inClass (top 25) 0
theorem sc_Place_init : FnScope ["self", "edition", "count"] ["self", "edition", "count"] (defScope s_Place_init) := ⟨rfl, rfl, rfl, by decide +kernel, rfl, by decide +kernel, by decide +kernel⟩
theorem ok_pl_init {CW CE CP fR : Addr} {fdR : FuncData} (F : Fun K "__init__" "Place.__init__" s_Place_init f fd) (W : PlTxt K CP) (D_require_count : DefOk P w K mg base 3 "require_count" fR fdR ["count", "edition"] (spReqCount CW CE)) :
    FnOk P w K mg base CX0 4 f fd ["self", "edition", "count"] (spPlInit CW CE CP) := by
  refine F.ok sc_Place_init (fun vs H Q E h => ?_) (fun cdv A outer s H vs Q E hr h => ?_)
  · obtain ⟨p, dx, e, wk, nm, ws, S, n, x, rfl, _⟩ := h
    rfl
  · obtain ⟨p, dx, e, wk, nm, ws, S, n, x, rfl, hp, he, hw, hx, hep, hwp, k⟩ := h
    refine ⟨_, (pss_cons (ps_expr (pe_d D_require_count (hr.mono (by decide)) (pa_cons (pv 2) (pa_cons (pv 1) pa_nil))))
        (pss_cons (ps_fld (pv 0) (pv 1) rfl)
        (pss_one (ps_fld (pv 0) (pv 2) rfl)))), ?_⟩
    refine ⟨_, rfl, _, rfl, e, wk, n, nm, ws, S, rfl, he, hw.l1, cnt_of_cuts hx, ?_⟩
    refine ⟨_, rfl, _, rfl, p, CP, dx, _, rfl, hp, W.cl, W.nE, by decide, ?_⟩
    rw [putP1]
    refine ⟨_, rfl, _, rfl, p, CP, dx, _, rfl, upd_same, W.cl, W.nC, by show 1 < 1000; decide, ?_⟩
    rw [putP2]
    have kk : Kp p H (upd (upd H p (.ins CP dx (q1 e))) p (.ins CP dx (plF e n))) := (Kp.upd _ _ _).trans (Kp.upd _ _ _)
    exact k _ ⟨⟨dx, upd_same⟩, he.kpi kk hp hep hwp, hw, hx⟩ kk
theorem mkPl {CW CE CP : Addr} {H : Hp} {e wk : Addr} {nm : Str} {ws : List Str} {S : Nat → Bool} {n x : Nat} {R : Addr → Hp → Prop} {E : XK} (he : EdAt CW CE H e wk nm ws S) (hw : WOk ws) (hx : (cutsL ws.length S)[n]? = some x)
    (k : ∀ q H', H q = none → Same H H' → PlAt CW CE CP H' q e wk nm ws S n x → R q H') :
    ∀ q dx, H q = none → H dx = none → dx ≠ q → spPlInit CW CE CP (.ref q :: ([.ref e, .int n] ++ [])) (upd (upd H dx (.own q)) q (.ins CP dx [])) (fun v H2 => v = .non ∧ R q H2) E := by
  intro q dx nx ndx nex
  have s0 : Same H (upd (upd H dx (.own q)) q (.ins CP dx [])) := fun b o e => by
    rw [upd_ne (ne_of_none e nx), upd_ne (ne_of_none e ndx)]
    exact e
  obtain ⟨de, t, u, v, o1, _⟩ := id he.ob
  obtain ⟨dw, tw, ew, o2, _, _⟩ := id he.wk.ob
  refine ⟨q, dx, e, wk, nm, ws, S, n, x, rfl, upd_same, he.same s0, hw, hx, ne_of_none o1 nx, ne_of_none o2 nx, fun H' hp hk => ⟨rfl, k q H' nx (fun b o e => hk b o (ne_of_none e nx) (s0 b o e)) hp⟩⟩
def spPlCut (CW CE CP : Addr) : Sp := fun vs H Q _ => ∃ (p e wk : Addr) (nm : Str) (ws : List Str) (S : Nat → Bool) (n x : Nat), vs = [.ref p] ∧ PlAt CW CE CP H p e wk nm ws S n x ∧ Q (.int x) H
abbrev s_Place_cut : Stmt := inClass (top 25) 1
theorem sc_Place_cut : FnScope ["self"] ["self"] (defScope s_Place_cut) := ⟨rfl, rfl, rfl, by decide +kernel, rfl, by decide +kernel, by decide +kernel⟩
theorem ok_pl_cut {CW CE CP fB : Addr} {fdB : FuncData} (F : Fun K "cut" "Place.cut" s_Place_cut f fd) (W : PlTxt K CP) (M_Edition_cut_behind : MetOk P w K mg base 4 CE "cut_behind" fB fdB ["self", "count"] (spCutB CW CE)) :
    FnOk P w K mg base CX0 5 f fd ["self"] (spPlCut CW CE CP) := by
  refine F.ok sc_Place_cut (fun vs H Q E h => ?_) (fun cdv A outer s H vs Q E hr h => ?_)
  · obtain ⟨p, e, wk, nm, ws, S, n, x, rfl, _⟩ := h
    rfl
  · obtain ⟨p, e, wk, nm, ws, S, n, x, rfl, hp, k⟩ := h
    obtain ⟨dx, hp1⟩ := hp.ob
    obtain ⟨de, t, u, v, o1, _⟩ := id hp.ed.ob
    refine ⟨_, (pss_one (ps_ret (pe_m M_Edition_cut_behind (hr.mono (by decide)) (pe_fld (pv 0) rfl) (pa_cons (pe_fld (pv 0) rfl) pa_nil)))), ?_⟩
    refine ⟨_, rfl, p, CP, dx, _, _, rfl, hp1, W.cl, W.nE, pl_edition _ _, e, de, _, rfl, o1, ed_no _ _ _ _ (by decide +kernel) (by decide +kernel) (by decide +kernel) (by decide +kernel), ?_⟩
    exact ⟨_, rfl, p, CP, dx, _, _, rfl, hp1, W.cl, W.nC, pl_count _ _, e, wk, n, x, nm, ws, S, rfl, hp.ed, hp.ok.l1, hp.at_, k⟩
end
/-! ### the readings, used -/
section
variable {CW CE CP : Addr} {H : Hp} {p e wk : Addr} {nm : Str} {ws : List Str} {S : Nat → Bool} {n x : Nat}
/-- its cut -/
theorem tcut {ta : TE} {σ : St} {Q : VK} (hp : PlAt CW CE CP H p e wk nm ws S n x) (h : ∀ R : VK, R (.ref p) H → ta σ H R) (k : Q (.int x) H) : tProp CP (spPlCut CW CE CP) [] E0 ta σ H Q := by
  obtain ⟨dx, hp1⟩ := hp.ob
  exact h _ ⟨p, dx, _, rfl, hp1, p, e, wk, nm, ws, S, n, x, rfl, hp, k⟩
end
end Lm

namespace Lm
open PySem L2
/-- so many passages on, at the ends at most -/
def mv (S : Nat → Bool) (N n : Nat) (i : Int) : Nat := (max 0 (min (cnt S N : Int) ((n : Int) + i))).toNat
def cutN (S : Nat → Bool) (N n : Nat) : Nat := (cutsL N S).getD n 0
theorem mv_le (S : Nat → Bool) (N n : Nat) (i : Int) : mv S N n i ≤ cnt S N := by unfold mv; omega
theorem cutN_at {S : Nat → Bool} {N n : Nat} (h : n ≤ cnt S N) : (cutsL N S)[n]? = some (cutN S N n) := by
  unfold cutN
  rw [List.getD_eq_getElem?_getD, List.getElem?_eq_getElem (by rw [cutsL_len]; omega)]
  rfl
section
variable {P : Program} {w : World} {K : PySem.W.Frag} {mg : Str → Option Value} {base : Heap} {f : Addr} {fd : FuncData}
def spSeen (CW CE CP : Addr) : Sp := fun vs H Q _ => ∃ (p e wk e' wk' : Addr) (nm : Str) (ws : List Str) (S T : Nat → Bool) (n x : Nat), vs = [.ref p, .ref e'] ∧ PlAt CW CE CP H p e wk nm ws S n x ∧ EdAt CW CE H e' wk' nm ws T ∧
  ∀ q H', H q = none → Same H H' → PlAt CW CE CP H' q e' wk' nm ws T (cnt T x) (ker T x) → Q (.ref q) H'
theorem PlAt.le {CW CE CP : Addr} {H : Hp} {p e wk : Addr} {nm : Str} {ws : List Str} {S : Nat → Bool} {n x : Nat} (h : PlAt CW CE CP H p e wk nm ws S n x) : x ≤ ws.length := (cnt_cuts h.at_).1
abbrev s_Place_seen : Stmt := inClass (top 25) 2
theorem sc_Place_seen : FnScope ["self", "edition"] ["self", "edition"] (defScope s_Place_seen) := ⟨rfl, rfl, rfl, by decide +kernel, rfl, by decide +kernel, by decide +kernel⟩
theorem ok_seen {CW CE CP fO fA fG fI pC : Addr} {fdO fdA fdG fdI : FuncData} (F : Fun K "seen" "Place.seen" s_Place_seen f fd) (W : PlTxt K CP) (D_require_one_work : DefOk P w K mg base 3 "require_one_work" fO fdO ["one", "other"] (spOneW CW CE))
    (M_Edition_count_at : MetOk P w K mg base 4 CE "count_at" fA fdA ["self", "cut"] (spCountAt CW CE)) (P_cut : PrpOk P w K mg base 5 CP pC "cut" fG fdG ["self"] (spPlCut CW CE CP)) (K_Place : ClsOk P w K mg base 4 "Place" CP fI fdI ["self", "edition", "count"] (spPlInit CW CE CP)) :
    FnOk P w K mg base CX0 7 f fd ["self", "edition"] (spSeen CW CE CP) := by
  refine F.ok sc_Place_seen (fun vs H Q E h => ?_) (fun cdv A outer s H vs Q E hr h => ?_)
  · obtain ⟨p, e, wk, e', wk', nm, ws, S, T, n, x, rfl, _⟩ := h
    rfl
  · obtain ⟨p, e, wk, e', wk', nm, ws, S, T, n, x, rfl, hp, he', k⟩ := h
    obtain ⟨dx, hp1⟩ := hp.ob
    obtain ⟨de, t, u, v, o1, _⟩ := id he'.ob
    refine ⟨_, (pss_cons (ps_expr (pe_d D_require_one_work (hr.mono (by decide)) (pa_cons (pe_fld (pv 0) rfl) (pa_cons (pv 1) pa_nil))))
        (pss_one (ps_ret (pe_mk K_Place (hr.mono (by decide)) (pa_cons (pv 1) (pa_cons (pe_m M_Edition_count_at (hr.mono (by decide)) (pv 1) (pa_cons (pe_p P_cut (hr.mono (by decide)) (pv 0)) pa_nil)) pa_nil)))))), ?_⟩
    refine ⟨_, rfl, p, CP, dx, _, _, rfl, hp1, W.cl, W.nE, pl_edition _ _, _, rfl, e, e', wk, wk', nm, ws, S, T, rfl, hp.ed, he', hp.ok, ?_⟩
    refine ⟨_, rfl, _, rfl, e', de, _, rfl, o1, ed_no _ _ _ _ (by decide +kernel) (by decide +kernel) (by decide +kernel) (by decide +kernel), ?_⟩
    refine tcut hp (fun R r => ⟨_, rfl, r⟩) ?_
    refine ⟨e', wk', x, nm, ws, T, rfl, he', hp.ok.l1, hp.le, ?_⟩
    exact mkPl he' hp.ok (cuts_at T hp.le) k
def spMoved (CW CE CP : Addr) (g : Int → Int) : Sp := fun vs H Q _ => ∃ (p e wk : Addr) (nm : Str) (ws : List Str) (S : Nat → Bool) (n x : Nat) (i : Int), vs = [.ref p, .int i] ∧ PlAt CW CE CP H p e wk nm ws S n x ∧
  ∀ q H', H q = none → Same H H' → PlAt CW CE CP H' q e wk nm ws S (mv S ws.length n (g i)) (cutN S ws.length (mv S ws.length n (g i))) → Q (.ref q) H'
abbrev s_Place_moved : Stmt := inClass (top 25) 3
theorem sc_Place_moved : FnScope ["self", "steps", "count"] ["self", "steps"] (defScope s_Place_moved) := ⟨rfl, rfl, rfl, by decide +kernel, rfl, by decide +kernel, by decide +kernel⟩
theorem ok_moved {CW CE CP fL fI : Addr} {fdL fdI : FuncData} (F : Fun K "moved" "Place.moved" s_Place_moved f fd) (T : BltM mg) (W : PlTxt K CP) (M_Edition_len : MetOk P w K mg base 1 CE "__len__" fL fdL ["self"] (spEdLen CW CE))
    (K_Place : ClsOk P w K mg base 4 "Place" CP fI fdI ["self", "edition", "count"] (spPlInit CW CE CP)) : FnOk P w K mg base CX0 6 f fd ["self", "steps"] (spMoved CW CE CP id) := by
  refine F.ok sc_Place_moved (fun vs H Q E h => ?_) (fun cdv A outer s H vs Q E hr h => ?_)
  · obtain ⟨p, e, wk, nm, ws, S, n, x, i, rfl, _⟩ := h
    rfl
  · obtain ⟨p, e, wk, nm, ws, S, n, x, i, rfl, hp, k⟩ := h
    obtain ⟨dx, hp1⟩ := hp.ob
    obtain ⟨de, t, u, v, o1, _⟩ := id hp.ed.ob
    refine ⟨_, (pss_cons (ps_set (i := 2) sc_Place_moved.nd rfl (by first | exact Or.inl rfl | exact Or.inr rfl) (pe_op op_add (pe_fld (pv 0) rfl) (pv 1)))
        (pss_one (ps_ret (pe_mk K_Place (hr.mono (by decide)) (pa_cons (pe_fld (pv 0) rfl) (pa_cons (pe_callB (call_max2 rfl) (by rfl) T.b_max (by decide +kernel) (pa_cons pe_int (pa_cons (pe_callB (call_min2 rfl) (by rfl) T.b_min (by decide +kernel) (pa_cons (pe_callB (M_Edition_len.len (hr.mono (by decide))) (by rfl) T.b_len PySem.boot_len (pa_cons (pe_fld (pv 0) rfl) pa_nil)) (pa_cons (pv 2) pa_nil))) pa_nil))) pa_nil)))))), ?_⟩
    refine ⟨_, rfl, p, CP, dx, _, _, rfl, hp1, W.cl, W.nC, pl_count _ _, _, rfl, _, _, rfl, rfl, ?_⟩
    refine ⟨_, rfl, p, CP, dx, _, _, rfl, hp1, W.cl, W.nE, pl_edition _ _, _, rfl, p, CP, dx, _, _, rfl, hp1, W.cl, W.nE, pl_edition _ _, ?_⟩
    refine ⟨e, de, _, rfl, o1, e, wk, nm, ws, S, rfl, hp.ed, cnt S ws.length, rfl, ?_, _, rfl, _, _, rfl, _, _, rfl, ?_⟩
    · have := cnt_of_cuts (cutN_at (S := S) (N := ws.length) (Nat.le_refl _))
      have h1 := idx_len ws.length S
      have h2 := hp.ok.l1
      show (cnt S ws.length) < 2 ^ 62
      unfold cnt
      omega
    · have e2 : (if (if (n : Int) + i < (cnt S ws.length : Nat) then (n : Int) + i else (cnt S ws.length : Nat)) > 0 then (if (n : Int) + i < (cnt S ws.length : Nat) then (n : Int) + i else (cnt S ws.length : Nat)) else 0) = ((mv S ws.length n i : Nat) : Int) := by
        unfold mv
        split <;> split <;> omega
      rw [e2]
      exact mkPl hp.ed hp.ok (cutN_at (mv_le S ws.length n i)) k

/-- p + i, i + p -/
theorem plNo (e : Addr) (n : Nat) : (plF e n).lookup ("moved" : Str) = none := pl_no _ _ (by decide +kernel) (by decide +kernel)
abbrev s_Place_add : Stmt := inClass (top 25) 4
theorem sc_Place_add : FnScope ["self", "other"] ["self", "other"] (defScope s_Place_add) := ⟨rfl, rfl, rfl, by decide +kernel, rfl, by decide +kernel, by decide +kernel⟩
theorem ok_add {CW CE CP fN fM : Addr} {fdN fdM : FuncData} (F : Fun K "__add__" "Place.__add__" s_Place_add f fd) (D_is_number : DefOk P w K mg base 1 "is_number" fN fdN ["x"] spIsNum) (M_Place_moved : MetOk P w K mg base 6 CP "moved" fM fdM ["self", "steps"] (spMoved CW CE CP id)) :
    FnOk P w K mg base CX0 7 f fd ["self", "other"] (spMoved CW CE CP id) := by
  refine F.ok sc_Place_add (fun vs H Q E h => ?_) (fun cdv A outer s H vs Q E hr h => ?_)
  · obtain ⟨p, e, wk, nm, ws, S, n, x, i, rfl, _⟩ := h
    rfl
  · obtain ⟨p, e, wk, nm, ws, S, n, x, i, rfl, hp, k⟩ := h
    obtain ⟨dx, hp1⟩ := hp.ob
    refine ⟨_, (pss_cons (ps_if (pt_not (pt_val (pe_d D_is_number (hr.mono (by decide)) (pa_cons (pv 1) pa_nil)))) (pss_one ps_never) pss_nil)
        (pss_one (ps_ret (pe_m M_Place_moved (hr.mono (by decide)) (pv 0) (pa_cons (pv 1) pa_nil))))), ?_⟩
    refine ⟨_, rfl, i, rfl, true, rfl, ?_⟩
    exact ⟨_, rfl, p, dx, _, rfl, hp1, plNo _ _, _, rfl, p, e, wk, nm, ws, S, n, x, i, rfl, hp, k⟩
structure PlOps (K : PySem.W.Frag) (CP fA : Addr) : Prop where
  sf_Place : PySem.W.selfFirst K CP = true
  at_add : PySem.W.findIn K (.ref CP) "__add__" = some (some (.ref fA))
  si_Place : PySem.W.subIn K (.ref CP) (.type "int") = some false
  bi_add : BinInt K CP "add"
  bi_sub : BinInt K CP "sub"
  bi_floordiv : BinInt K CP "floordiv"
  bi_mod : BinInt K CP "mod"
abbrev s_Place_radd : Stmt := inClass (top 25) 5
theorem sc_Place_radd : FnScope ["self", "other"] ["self", "other"] (defScope s_Place_radd) := ⟨rfl, rfl, rfl, by decide +kernel, rfl, by decide +kernel, by decide +kernel⟩
theorem ok_radd {CW CE CP fA : Addr} {fdA : FuncData} (F : Fun K "__radd__" "Place.__radd__" s_Place_radd f fd) (T : PlOps K CP fA) (M_Place_add : MetOk P w K mg base 7 CP "__add__" fA fdA ["self", "other"] (spMoved CW CE CP id)) :
    FnOk P w K mg base CX0 8 f fd ["self", "other"] (spMoved CW CE CP id) := by
  refine F.ok sc_Place_radd (fun vs H Q E h => ?_) (fun cdv A outer s H vs Q E hr h => ?_)
  · obtain ⟨p, e, wk, nm, ws, S, n, x, i, rfl, _⟩ := h
    rfl
  · obtain ⟨p, e, wk, nm, ws, S, n, x, i, rfl, hp, k⟩ := h
    obtain ⟨dx, hp1⟩ := hp.ob
    refine ⟨_, (pss_one (ps_ret (pe_op (M_Place_add.bini T.bi_add (hr.mono (by decide))) (pv 0) (pv 1)))), ?_⟩
    exact ⟨_, rfl, _, rfl, p, dx, _, i, rfl, rfl, hp1, p, e, wk, nm, ws, S, n, x, i, rfl, hp, k⟩
structure PlIsi (K : PySem.W.Frag) (mg : Str → Option Value) (C : Addr) : Prop where
  g_Place : mg "Place" = some (.ref C)
  ha : PySem.W.findIn K (.ref C) "__class__" = some (some (.builtin "object.__class__"))
  hn : PySem.W.specialIn K (.builtin "object.__class__") "__get__" = some (some (.builtin "getset_descriptor.__get__"))
  htk : PySem.W.takesIn K (.builtin "object.__class__") = some true
  hm : PySem.W.mroIn K C (.type "object") = some true
  ko : PySem.W.kitOne K (.ref C) (.ref C) = some true
  ki : PySem.W.kitOne K (.type "int") (.ref C) = some false
/-- p - q -/
def spDiff (CW CE CP : Addr) : Sp := fun vs H Q _ => ∃ (p e wk q e' wk' : Addr) (nm : Str) (ws : List Str) (S S' : Nat → Bool) (n x n' x' : Nat), vs = [.ref p, .ref q] ∧ PlAt CW CE CP H p e wk nm ws S n x ∧ PlAt CW CE CP H q e' wk' nm ws S' n' x' ∧ Q (.int ((x : Int) - (x' : Int))) H
abbrev s_Place_sub : Stmt := inClass (top 25) 6
theorem sc_Place_sub : FnScope ["self", "other"] ["self", "other"] (defScope s_Place_sub) := ⟨rfl, rfl, rfl, by decide +kernel, rfl, by decide +kernel, by decide +kernel⟩
theorem ok_sub_pl {CW CE CP fO fN fM fG pC : Addr} {fdO fdN fdM fdG : FuncData} (F : Fun K "__sub__" "Place.__sub__" s_Place_sub f fd) (T : Blt mg) (T' : PlIsi K mg CP) (W : PlTxt K CP) (D_require_one_work : DefOk P w K mg base 3 "require_one_work" fO fdO ["one", "other"] (spOneW CW CE))
    (D_is_number : DefOk P w K mg base 1 "is_number" fN fdN ["x"] spIsNum) (M_Place_moved : MetOk P w K mg base 6 CP "moved" fM fdM ["self", "steps"] (spMoved CW CE CP id)) (P_cut : PrpOk P w K mg base 5 CP pC "cut" fG fdG ["self"] (spPlCut CW CE CP)) :
    FnOk P w K mg base CX0 7 f fd ["self", "other"] (spDiff CW CE CP) := by
  refine F.ok sc_Place_sub (fun vs H Q E h => ?_) (fun cdv A outer s H vs Q E hr h => ?_)
  · obtain ⟨p, e, wk, q, e', wk', nm, ws, S, S', n, x, n', x', rfl, _⟩ := h
    rfl
  · obtain ⟨p, e, wk, q, e', wk', nm, ws, S, S', n, x, n', x', rfl, hp, hq, k⟩ := h
    obtain ⟨dx, hp1⟩ := hp.ob
    obtain ⟨dy, hq1⟩ := hq.ob
    refine ⟨_, (pss_cons (ps_if (pt_val (pe_callB call_isi (by rfl) T.b_isinstance (by decide +kernel) (pa_cons (pv 1) (pa_cons (pe_glob (v := .ref _) rfl T'.g_Place rfl) pa_nil)))) (pss_cons (ps_expr (pe_d D_require_one_work (hr.mono (by decide)) (pa_cons (pe_fld (pv 0) rfl) (pa_cons (pe_fld (pv 1) rfl) pa_nil))))
        (pss_one (ps_ret (pe_op op_sub (pe_p P_cut (hr.mono (by decide)) (pv 0)) (pe_p P_cut (hr.mono (by decide)) (pv 1)))))) pss_nil)
        (pss_cons (ps_if (pt_not (pt_val (pe_d D_is_number (hr.mono (by decide)) (pa_cons (pv 1) pa_nil)))) (pss_one ps_never) pss_nil)
        (pss_one (ps_ret (pe_m M_Place_moved (hr.mono (by decide)) (pv 0) (pa_cons (pe_un un_neg (pv 1)) pa_nil)))))), ?_⟩
    refine ⟨_, rfl, _, _, _, _, true, rfl, .own CP, .base (.ins hq1 W.cl T'.ha T'.hn T'.htk T'.hm), T'.ko, true, rfl, ?_⟩
    refine ⟨_, rfl, p, CP, dx, _, _, rfl, hp1, W.cl, W.nE, pl_edition _ _, _, rfl, q, CP, dy, _, _, rfl, hq1, W.cl, W.nE, pl_edition _ _, e, e', wk, wk', nm, ws, S, S', rfl, hp.ed, hq.ed, hp.ok, ?_⟩
    refine ⟨_, rfl, p, dx, _, rfl, hp1, p, e, wk, nm, ws, S, n, x, rfl, hp, ?_⟩
    refine ⟨_, rfl, q, dy, _, rfl, hq1, q, e', wk', nm, ws, S', n', x', rfl, hq, ?_⟩
    exact ⟨_, _, rfl, rfl, k⟩
/-- p - i -/
theorem ok_sub_int {CW CE CP fO fN fM fG pC : Addr} {fdO fdN fdM fdG : FuncData} (F : Fun K "__sub__" "Place.__sub__" s_Place_sub f fd) (T : Blt mg) (T' : PlIsi K mg CP) (W : PlTxt K CP) (D_require_one_work : DefOk P w K mg base 3 "require_one_work" fO fdO ["one", "other"] (spOneW CW CE))
    (D_is_number : DefOk P w K mg base 1 "is_number" fN fdN ["x"] spIsNum) (M_Place_moved : MetOk P w K mg base 6 CP "moved" fM fdM ["self", "steps"] (spMoved CW CE CP id)) (P_cut : PrpOk P w K mg base 5 CP pC "cut" fG fdG ["self"] (spPlCut CW CE CP)) :
    FnOk P w K mg base CX0 7 f fd ["self", "other"] (spMoved CW CE CP fun i => -i) := by
  refine F.ok sc_Place_sub (fun vs H Q E h => ?_) (fun cdv A outer s H vs Q E hr h => ?_)
  · obtain ⟨p, e, wk, nm, ws, S, n, x, i, rfl, _⟩ := h
    rfl
  · obtain ⟨p, e, wk, nm, ws, S, n, x, i, rfl, hp, k⟩ := h
    obtain ⟨dx, hp1⟩ := hp.ob
    refine ⟨_, (pss_cons (ps_if (pt_val (pe_callB call_isi (by rfl) T.b_isinstance (by decide +kernel) (pa_cons (pv 1) (pa_cons (pe_glob (v := .ref _) rfl T'.g_Place rfl) pa_nil)))) (pss_cons (ps_expr (pe_d D_require_one_work (hr.mono (by decide)) (pa_cons (pe_fld (pv 0) rfl) (pa_cons (pe_fld (pv 1) rfl) pa_nil))))
        (pss_one (ps_ret (pe_op op_sub (pe_p P_cut (hr.mono (by decide)) (pv 0)) (pe_p P_cut (hr.mono (by decide)) (pv 1)))))) pss_nil)
        (pss_cons (ps_if (pt_not (pt_val (pe_d D_is_number (hr.mono (by decide)) (pa_cons (pv 1) pa_nil)))) (pss_one ps_never) pss_nil)
        (pss_one (ps_ret (pe_m M_Place_moved (hr.mono (by decide)) (pv 0) (pa_cons (pe_un un_neg (pv 1)) pa_nil)))))), ?_⟩
    refine ⟨_, rfl, _, _, _, _, false, rfl, .own CP, .base (.int i), T'.ki, false, rfl, ?_⟩
    refine ⟨_, rfl, i, rfl, true, rfl, ?_⟩
    exact ⟨_, rfl, p, dx, _, rfl, hp1, plNo _ _, _, rfl, i, rfl, p, e, wk, nm, ws, S, n, x, -i, rfl, hp, k⟩
abbrev s_require_size : Stmt := top 26
theorem sc_require_size : FnScope ["size"] ["size"] (defScope s_require_size) := ⟨rfl, rfl, rfl, by decide +kernel, rfl, by decide +kernel, by decide +kernel⟩
def spSize : Sp := fun vs H Q _ => ∃ k : Nat, vs = [.int k] ∧ 1 ≤ k ∧ Q .non H
theorem ok_size (F : Fun K "require_size" "require_size" s_require_size f fd) : FnOk P w K mg base CX0 1 f fd ["size"] spSize := by
  refine F.ok sc_require_size (fun vs H Q E h => ?_) (fun cdv A outer s H vs Q E hr h => ?_)
  · obtain ⟨i, rfl, _⟩ := h
    rfl
  · obtain ⟨i, rfl, h1, k⟩ := h
    refine ⟨_, (pss_one (ps_if (pt_cmpR op_lt (pv 0) pe_int (nomark _)) (pss_one ps_never) pss_nil)), ?_⟩
    refine ⟨_, rfl, _, _, rfl, rfl, false, ?_, k⟩
    show V.bl (decide ((i : Int) < 1)) = V.bl false
    rw [decide_eq_false (by omega)]
/-- p // k, p % k -/
def spDiv (CW CE CP : Addr) (g : Int → Int → Int) : Sp := fun vs H Q _ => ∃ (p e wk : Addr) (nm : Str) (ws : List Str) (S : Nat → Bool) (n x k : Nat), vs = [.ref p, .int k] ∧ PlAt CW CE CP H p e wk nm ws S n x ∧ 1 ≤ k ∧ k < 1000000 ∧ Q (.int (g n k)) H
abbrev s_Place_floordiv : Stmt := inClass (top 25) 7
theorem sc_Place_floordiv : FnScope ["self", "other"] ["self", "other"] (defScope s_Place_floordiv) := ⟨rfl, rfl, rfl, by decide +kernel, rfl, by decide +kernel, by decide +kernel⟩
theorem ok_fdiv {CW CE CP fN fS : Addr} {fdN fdS : FuncData} (F : Fun K "__floordiv__" "Place.__floordiv__" s_Place_floordiv f fd) (W : PlTxt K CP) (D_is_number : DefOk P w K mg base 1 "is_number" fN fdN ["x"] spIsNum) (D_require_size : DefOk P w K mg base 1 "require_size" fS fdS ["size"] spSize) :
    FnOk P w K mg base CX0 2 f fd ["self", "other"] (spDiv CW CE CP Int.fdiv) := by
  refine F.ok sc_Place_floordiv (fun vs H Q E h => ?_) (fun cdv A outer s H vs Q E hr h => ?_)
  · obtain ⟨p, e, wk, nm, ws, S, n, x, i, rfl, _⟩ := h
    rfl
  · obtain ⟨p, e, wk, nm, ws, S, n, x, i, rfl, hp, h1, h2, k⟩ := h
    obtain ⟨dx, hp1⟩ := hp.ob
    refine ⟨_, (pss_cons (ps_if (pt_not (pt_val (pe_d D_is_number (hr.mono (by decide)) (pa_cons (pv 1) pa_nil)))) (pss_one ps_never) pss_nil)
        (pss_cons (ps_expr (pe_d D_require_size (hr.mono (by decide)) (pa_cons (pv 1) pa_nil)))
        (pss_one (ps_ret (pe_op op_fdivN (pe_fld (pv 0) rfl) (pv 1)))))), ?_⟩
    refine ⟨_, rfl, i, rfl, true, rfl, ?_⟩
    refine ⟨_, rfl, i, rfl, h1, ?_⟩
    exact ⟨_, rfl, p, CP, dx, _, _, rfl, hp1, W.cl, W.nC, pl_count _ _, _, rfl, _, _, rfl, rfl, ⟨by omega, by omega⟩, k⟩
abbrev s_Place_mod : Stmt := inClass (top 25) 8
theorem sc_Place_mod : FnScope ["self", "other"] ["self", "other"] (defScope s_Place_mod) := ⟨rfl, rfl, rfl, by decide +kernel, rfl, by decide +kernel, by decide +kernel⟩
theorem ok_mod {CW CE CP fN fS : Addr} {fdN fdS : FuncData} (F : Fun K "__mod__" "Place.__mod__" s_Place_mod f fd) (W : PlTxt K CP) (D_is_number : DefOk P w K mg base 1 "is_number" fN fdN ["x"] spIsNum) (D_require_size : DefOk P w K mg base 1 "require_size" fS fdS ["size"] spSize) :
    FnOk P w K mg base CX0 2 f fd ["self", "other"] (spDiv CW CE CP Int.fmod) := by
  refine F.ok sc_Place_mod (fun vs H Q E h => ?_) (fun cdv A outer s H vs Q E hr h => ?_)
  · obtain ⟨p, e, wk, nm, ws, S, n, x, i, rfl, _⟩ := h
    rfl
  · obtain ⟨p, e, wk, nm, ws, S, n, x, i, rfl, hp, h1, h2, k⟩ := h
    obtain ⟨dx, hp1⟩ := hp.ob
    refine ⟨_, (pss_cons (ps_if (pt_not (pt_val (pe_d D_is_number (hr.mono (by decide)) (pa_cons (pv 1) pa_nil)))) (pss_one ps_never) pss_nil)
        (pss_cons (ps_expr (pe_d D_require_size (hr.mono (by decide)) (pa_cons (pv 1) pa_nil)))
        (pss_one (ps_ret (pe_op op_modN (pe_fld (pv 0) rfl) (pv 1)))))), ?_⟩
    refine ⟨_, rfl, i, rfl, true, rfl, ?_⟩
    refine ⟨_, rfl, i, rfl, h1, ?_⟩
    exact ⟨_, rfl, p, CP, dx, _, _, rfl, hp1, W.cl, W.nC, pl_count _ _, _, rfl, _, _, rfl, rfl, by omega, k⟩
/-- the orders -/
def spOrd (CW CE CP : Addr) (g : Int → Int → Bool) : Sp := fun vs H Q _ => ∃ (p e wk q e' wk' : Addr) (nm : Str) (ws : List Str) (S S' : Nat → Bool) (n x n' x' : Nat), vs = [.ref p, .ref q] ∧ PlAt CW CE CP H p e wk nm ws S n x ∧ PlAt CW CE CP H q e' wk' nm ws S' n' x' ∧ Q (.bl (g x x')) H
abbrev s_Place_lt : Stmt := inClass (top 25) 9
theorem sc_Place_lt : FnScope ["self", "other"] ["self", "other"] (defScope s_Place_lt) := ⟨rfl, rfl, rfl, by decide +kernel, rfl, by decide +kernel, by decide +kernel⟩
theorem ok_pl_lt {CW CE CP fO fG pC : Addr} {fdO fdG : FuncData} (F : Fun K "__lt__" "Place.__lt__" s_Place_lt f fd) (W : PlTxt K CP) (D_require_one_work : DefOk P w K mg base 3 "require_one_work" fO fdO ["one", "other"] (spOneW CW CE))
    (P_cut : PrpOk P w K mg base 5 CP pC "cut" fG fdG ["self"] (spPlCut CW CE CP)) : FnOk P w K mg base CX0 7 f fd ["self", "other"] (spOrd CW CE CP (fun i j => decide (i < j))) := by
  refine F.ok sc_Place_lt (fun vs H Q E h => ?_) (fun cdv A outer s H vs Q E hr h => ?_)
  · obtain ⟨p, e, wk, q, e', wk', nm, ws, S, S', n, x, n', x', rfl, _⟩ := h
    rfl
  · obtain ⟨p, e, wk, q, e', wk', nm, ws, S, S', n, x, n', x', rfl, hp, hq, k⟩ := h
    obtain ⟨dx, hp1⟩ := hp.ob
    obtain ⟨dy, hq1⟩ := hq.ob
    refine ⟨_, (pss_cons (ps_expr (pe_d D_require_one_work (hr.mono (by decide)) (pa_cons (pe_fld (pv 0) rfl) (pa_cons (pe_fld (pv 1) rfl) pa_nil))))
        (pss_one (ps_ret (pe_cmpR op_lt (pe_p P_cut (hr.mono (by decide)) (pv 0)) (pe_p P_cut (hr.mono (by decide)) (pv 1)) (nomark _))))), ?_⟩
    refine ⟨_, rfl, p, CP, dx, _, _, rfl, hp1, W.cl, W.nE, pl_edition _ _, _, rfl, q, CP, dy, _, _, rfl, hq1, W.cl, W.nE, pl_edition _ _, e, e', wk, wk', nm, ws, S, S', rfl, hp.ed, hq.ed, hp.ok, ?_⟩
    refine ⟨_, rfl, p, dx, _, rfl, hp1, p, e, wk, nm, ws, S, n, x, rfl, hp, ?_⟩
    refine ⟨_, rfl, q, dy, _, rfl, hq1, q, e', wk', nm, ws, S', n', x', rfl, hq, ?_⟩
    exact ⟨_, _, rfl, rfl, k⟩
abbrev s_Place_le : Stmt := inClass (top 25) 10
theorem sc_Place_le : FnScope ["self", "other"] ["self", "other"] (defScope s_Place_le) := ⟨rfl, rfl, rfl, by decide +kernel, rfl, by decide +kernel, by decide +kernel⟩
theorem ok_pl_le {CW CE CP fO fG pC : Addr} {fdO fdG : FuncData} (F : Fun K "__le__" "Place.__le__" s_Place_le f fd) (W : PlTxt K CP) (D_require_one_work : DefOk P w K mg base 3 "require_one_work" fO fdO ["one", "other"] (spOneW CW CE))
    (P_cut : PrpOk P w K mg base 5 CP pC "cut" fG fdG ["self"] (spPlCut CW CE CP)) : FnOk P w K mg base CX0 7 f fd ["self", "other"] (spOrd CW CE CP (fun i j => decide (i ≤ j))) := by
  refine F.ok sc_Place_le (fun vs H Q E h => ?_) (fun cdv A outer s H vs Q E hr h => ?_)
  · obtain ⟨p, e, wk, q, e', wk', nm, ws, S, S', n, x, n', x', rfl, _⟩ := h
    rfl
  · obtain ⟨p, e, wk, q, e', wk', nm, ws, S, S', n, x, n', x', rfl, hp, hq, k⟩ := h
    obtain ⟨dx, hp1⟩ := hp.ob
    obtain ⟨dy, hq1⟩ := hq.ob
    refine ⟨_, (pss_cons (ps_expr (pe_d D_require_one_work (hr.mono (by decide)) (pa_cons (pe_fld (pv 0) rfl) (pa_cons (pe_fld (pv 1) rfl) pa_nil))))
        (pss_one (ps_ret (pe_cmpR op_le (pe_p P_cut (hr.mono (by decide)) (pv 0)) (pe_p P_cut (hr.mono (by decide)) (pv 1)) (nomark _))))), ?_⟩
    refine ⟨_, rfl, p, CP, dx, _, _, rfl, hp1, W.cl, W.nE, pl_edition _ _, _, rfl, q, CP, dy, _, _, rfl, hq1, W.cl, W.nE, pl_edition _ _, e, e', wk, wk', nm, ws, S, S', rfl, hp.ed, hq.ed, hp.ok, ?_⟩
    refine ⟨_, rfl, p, dx, _, rfl, hp1, p, e, wk, nm, ws, S, n, x, rfl, hp, ?_⟩
    refine ⟨_, rfl, q, dy, _, rfl, hq1, q, e', wk', nm, ws, S', n', x', rfl, hq, ?_⟩
    exact ⟨_, _, rfl, rfl, k⟩
abbrev s_Place_gt : Stmt := inClass (top 25) 11
theorem sc_Place_gt : FnScope ["self", "other"] ["self", "other"] (defScope s_Place_gt) := ⟨rfl, rfl, rfl, by decide +kernel, rfl, by decide +kernel, by decide +kernel⟩
theorem ok_pl_gt {CW CE CP fO fG pC : Addr} {fdO fdG : FuncData} (F : Fun K "__gt__" "Place.__gt__" s_Place_gt f fd) (W : PlTxt K CP) (D_require_one_work : DefOk P w K mg base 3 "require_one_work" fO fdO ["one", "other"] (spOneW CW CE))
    (P_cut : PrpOk P w K mg base 5 CP pC "cut" fG fdG ["self"] (spPlCut CW CE CP)) : FnOk P w K mg base CX0 7 f fd ["self", "other"] (spOrd CW CE CP (fun i j => decide (j < i))) := by
  refine F.ok sc_Place_gt (fun vs H Q E h => ?_) (fun cdv A outer s H vs Q E hr h => ?_)
  · obtain ⟨p, e, wk, q, e', wk', nm, ws, S, S', n, x, n', x', rfl, _⟩ := h
    rfl
  · obtain ⟨p, e, wk, q, e', wk', nm, ws, S, S', n, x, n', x', rfl, hp, hq, k⟩ := h
    obtain ⟨dx, hp1⟩ := hp.ob
    obtain ⟨dy, hq1⟩ := hq.ob
    refine ⟨_, (pss_cons (ps_expr (pe_d D_require_one_work (hr.mono (by decide)) (pa_cons (pe_fld (pv 0) rfl) (pa_cons (pe_fld (pv 1) rfl) pa_nil))))
        (pss_one (ps_ret (pe_cmpR op_gt (pe_p P_cut (hr.mono (by decide)) (pv 0)) (pe_p P_cut (hr.mono (by decide)) (pv 1)) (nomark _))))), ?_⟩
    refine ⟨_, rfl, p, CP, dx, _, _, rfl, hp1, W.cl, W.nE, pl_edition _ _, _, rfl, q, CP, dy, _, _, rfl, hq1, W.cl, W.nE, pl_edition _ _, e, e', wk, wk', nm, ws, S, S', rfl, hp.ed, hq.ed, hp.ok, ?_⟩
    refine ⟨_, rfl, p, dx, _, rfl, hp1, p, e, wk, nm, ws, S, n, x, rfl, hp, ?_⟩
    refine ⟨_, rfl, q, dy, _, rfl, hq1, q, e', wk', nm, ws, S', n', x', rfl, hq, ?_⟩
    exact ⟨_, _, rfl, rfl, k⟩
abbrev s_Place_ge : Stmt := inClass (top 25) 12
theorem sc_Place_ge : FnScope ["self", "other"] ["self", "other"] (defScope s_Place_ge) := ⟨rfl, rfl, rfl, by decide +kernel, rfl, by decide +kernel, by decide +kernel⟩
theorem ok_pl_ge {CW CE CP fO fG pC : Addr} {fdO fdG : FuncData} (F : Fun K "__ge__" "Place.__ge__" s_Place_ge f fd) (W : PlTxt K CP) (D_require_one_work : DefOk P w K mg base 3 "require_one_work" fO fdO ["one", "other"] (spOneW CW CE))
    (P_cut : PrpOk P w K mg base 5 CP pC "cut" fG fdG ["self"] (spPlCut CW CE CP)) : FnOk P w K mg base CX0 7 f fd ["self", "other"] (spOrd CW CE CP (fun i j => decide (j ≤ i))) := by
  refine F.ok sc_Place_ge (fun vs H Q E h => ?_) (fun cdv A outer s H vs Q E hr h => ?_)
  · obtain ⟨p, e, wk, q, e', wk', nm, ws, S, S', n, x, n', x', rfl, _⟩ := h
    rfl
  · obtain ⟨p, e, wk, q, e', wk', nm, ws, S, S', n, x, n', x', rfl, hp, hq, k⟩ := h
    obtain ⟨dx, hp1⟩ := hp.ob
    obtain ⟨dy, hq1⟩ := hq.ob
    refine ⟨_, (pss_cons (ps_expr (pe_d D_require_one_work (hr.mono (by decide)) (pa_cons (pe_fld (pv 0) rfl) (pa_cons (pe_fld (pv 1) rfl) pa_nil))))
        (pss_one (ps_ret (pe_cmpR op_ge (pe_p P_cut (hr.mono (by decide)) (pv 0)) (pe_p P_cut (hr.mono (by decide)) (pv 1)) (nomark _))))), ?_⟩
    refine ⟨_, rfl, p, CP, dx, _, _, rfl, hp1, W.cl, W.nE, pl_edition _ _, _, rfl, q, CP, dy, _, _, rfl, hq1, W.cl, W.nE, pl_edition _ _, e, e', wk, wk', nm, ws, S, S', rfl, hp.ed, hq.ed, hp.ok, ?_⟩
    refine ⟨_, rfl, p, dx, _, rfl, hp1, p, e, wk, nm, ws, S, n, x, rfl, hp, ?_⟩
    refine ⟨_, rfl, q, dy, _, rfl, hq1, q, e', wk', nm, ws, S', n', x', rfl, hq, ?_⟩
    exact ⟨_, _, rfl, rfl, k⟩
abbrev s_Place_eq : Stmt := inClass (top 25) 13
theorem sc_Place_eq : FnScope ["self", "other"] ["self", "other"] (defScope s_Place_eq) := ⟨rfl, rfl, rfl, by decide +kernel, rfl, by decide +kernel, by decide +kernel⟩
theorem ok_pl_eq {CW CE CP fE fG pC : Addr} {fdE fdG : FuncData} (F : Fun K "__eq__" "Place.__eq__" s_Place_eq f fd) (T : Blt mg) (T' : PlIsi K mg CP) (W : PlTxt K CP) (W' : EdTxt K CE) (M_Work_eq : MetOk P w K mg base 1 CW "__eq__" fE fdE ["self", "other"] (spWkEq CW))
    (P_cut : PrpOk P w K mg base 5 CP pC "cut" fG fdG ["self"] (spPlCut CW CE CP)) : FnOk P w K mg base CX0 7 f fd ["self", "other"] (spOrd CW CE CP fun i j => decide (i = j)) := by
  refine F.ok sc_Place_eq (fun vs H Q E h => ?_) (fun cdv A outer s H vs Q E hr h => ?_)
  · obtain ⟨p, e, wk, q, e', wk', nm, ws, S, S', n, x, n', x', rfl, _⟩ := h
    rfl
  · obtain ⟨p, e, wk, q, e', wk', nm, ws, S, S', n, x, n', x', rfl, hp, hq, k⟩ := h
    obtain ⟨dx, hp1⟩ := hp.ob
    obtain ⟨dy, hq1⟩ := hq.ob
    obtain ⟨de, t, u, v, h1, _⟩ := id hp.ed.ob
    obtain ⟨de', t', u', v', g1, _⟩ := id hq.ed.ob
    obtain ⟨dw, tw, ew, o1, _, _⟩ := id hp.ed.wk.ob
    obtain ⟨dw', tw', ew', o1', _, _⟩ := id hq.ed.wk.ob
    refine ⟨_, (pss_one (ps_ret (pe_and (pe_callB call_isi (by rfl) T.b_isinstance (by decide +kernel) (pa_cons (pv 1) (pa_cons (pe_glob (v := .ref _) rfl T'.g_Place rfl) pa_nil))) (pe_and (pe_cmpR (M_Work_eq.eq (hr.mono (by decide))) (pe_fld (pe_fld (pv 0) rfl) rfl) (pe_fld (pe_fld (pv 1) rfl) rfl) (nomark _)) (pe_one (pe_cmpR op_eq (pe_p P_cut (hr.mono (by decide)) (pv 0)) (pe_p P_cut (hr.mono (by decide)) (pv 1)) (nomark _))))))), ?_⟩
    refine ⟨_, rfl, _, _, _, _, true, rfl, .own CP, .base (.ins hq1 W.cl T'.ha T'.hn T'.htk T'.hm), T'.ko, true, rfl, ?_⟩
    refine ⟨_, rfl, p, CP, dx, _, _, rfl, hp1, W.cl, W.nE, pl_edition _ _, e, CE, de, _, _, rfl, h1, W'.cl, W'.nK, ed_work _ _ _ _, ?_⟩
    refine ⟨_, rfl, q, CP, dy, _, _, rfl, hq1, W.cl, W.nE, pl_edition _ _, e', CE, de', _, _, rfl, g1, W'.cl, W'.nK, ed_work _ _ _ _, ?_⟩
    refine ⟨wk, dw, _, wk', dw', _, rfl, rfl, o1, o1', wk, wk', nm, nm, ws, ws, rfl, hp.ed.wk, hq.ed.wk, hp.ok.ok.wd, hp.ok.ok.wd, ?_⟩
    rw [decide_eq_true (show nm = nm ∧ ws = ws from ⟨rfl, rfl⟩)]
    refine ⟨true, rfl, ?_⟩
    refine ⟨_, rfl, p, dx, _, rfl, hp1, p, e, wk, nm, ws, S, n, x, rfl, hp, ?_⟩
    refine ⟨_, rfl, q, dy, _, rfl, hq1, q, e', wk', nm, ws, S', n', x', rfl, hq, ?_⟩
    refine ⟨rfl, ?_⟩
    show Q (.bl (decide (V.int (x : Int) = V.int (x' : Int)))) H
    rw [show decide (V.int (x : Int) = V.int (x' : Int)) = decide ((x : Int) = (x' : Int)) from decide_eq_decide.mpr ⟨fun z => V.int.inj z, fun z => congrArg V.int z⟩]
    exact k
end
end Lm

namespace Lm
open PySem L2 Evl
def rInt : List V → Hp → VK → Prop := fun xs H Q => (∃ i, xs = [.int i] ∧ Q (.int i) H) ∨ ∃ k, xs = [.bl k] ∧ Q (.int (if k = true then 1 else 0)) H
/-! ### lists of data compared -/
section
variable {K : PySem.W.Frag} {H : Hp}
theorem dpAll_nts : ∀ l : List Nat, DpAll K H (nts l) (l.map fun n : Nat => PyData.int n)
  | [] => .nil
  | x :: r => .cons (.int x) (dpAll_nts r)
theorem dpAll_bls : ∀ l : List Bool, DpAll K H (l.map V.bl) (l.map PyData.bool)
  | [] => .nil
  | x :: r => .cons (.bl x) (dpAll_bls r)
theorem lay_nts : ∀ l : List Nat, PyData.canLayAll0 (l.map fun n : Nat => PyData.int n) = true
  | [] => rfl
  | x :: r => by
    show (true && PyData.canLayAll0 (r.map fun n : Nat => PyData.int n)) = true
    rw [lay_nts r]
    rfl
theorem lay_bls : ∀ l : List Bool, PyData.canLayAll0 (l.map PyData.bool) = true
  | [] => rfl
  | x :: r => by
    show (true && PyData.canLayAll0 (r.map PyData.bool)) = true
    rw [lay_bls r]
    rfl
theorem depth_nts : ∀ l : List Nat, PyData.depthAll (l.map fun n : Nat => PyData.int n) = 0
  | [] => rfl
  | x :: r => by
    show max 0 (PyData.depthAll (r.map fun n : Nat => PyData.int n)) = 0
    rw [depth_nts r]
    rfl
theorem depth_bls : ∀ l : List Bool, PyData.depthAll (l.map PyData.bool) = 0
  | [] => rfl
  | x :: r => by
    show max 0 (PyData.depthAll (r.map PyData.bool)) = 0
    rw [depth_bls r]
    rfl
theorem shaped_nts (l : List Nat) : PySem.SeqAt.shaped (.list (l.map fun n : Nat => PyData.int n)) = true := by
  show (PyData.canLayAll0 (l.map fun n : Nat => PyData.int n) && decide (PyData.depthAll (l.map fun n : Nat => PyData.int n) + 1 ≤ 64)) = true
  rw [lay_nts l, depth_nts]
  rfl
theorem shaped_bls (l : List Bool) : PySem.SeqAt.shaped (.list (l.map PyData.bool)) = true := by
  show (PyData.canLayAll0 (l.map PyData.bool) && decide (PyData.depthAll (l.map PyData.bool) + 1 ≤ 64)) = true
  rw [lay_bls l, depth_bls]
  rfl
theorem eqv_self {d : PyData} (h : PySem.SeqAt.shaped d = true) : PyData.eqv d d = true := PySem.SeqAt.eqv_refl d (PySem.SeqAt.canLay_of_shaped h)
/-- two equal lists of numbers, of truths -/
theorem rv_neN {p q : Addr} {l : List Nat} (h1 : H p = some (.lst (nts l))) (h2 : H q = some (.lst (nts l))) : RV (rNeD K) (.ref p) (.ref q) H (.bl false) := fun H1 e Q k =>
  ⟨_, _, .lst (SqL.of (e _ _ h1)) (dpAll_nts l), .lst (SqL.of (e _ _ h2)) (dpAll_nts l), shaped_nts l, shaped_nts l, by rw [eqv_self (shaped_nts l)]; exact k H1 (Ex.refl H1)⟩
theorem rv_eqN {p q : Addr} {l : List Nat} (h1 : H p = some (.lst (nts l))) (h2 : H q = some (.lst (nts l))) : RV (rEqD K) (.ref p) (.ref q) H (.bl true) := fun H1 e Q k =>
  ⟨_, _, .lst (SqL.of (e _ _ h1)) (dpAll_nts l), .lst (SqL.of (e _ _ h2)) (dpAll_nts l), shaped_nts l, shaped_nts l, by rw [eqv_self (shaped_nts l)]; exact k H1 (Ex.refl H1)⟩
theorem rv_neB {p q : Addr} {l : List Bool} (h1 : H p = some (.lst (l.map V.bl))) (h2 : H q = some (.lst (l.map V.bl))) : RV (rNeD K) (.ref p) (.ref q) H (.bl false) := fun H1 e Q k =>
  ⟨_, _, .lst (SqL.of (e _ _ h1)) (dpAll_bls l), .lst (SqL.of (e _ _ h2)) (dpAll_bls l), shaped_bls l, shaped_bls l, by rw [eqv_self (shaped_bls l)]; exact k H1 (Ex.refl H1)⟩
end
theorem given_all {n : Nat} {f : Nat → Bool} {v : Nat → V} (h : ∀ i < n, f i = true) : given n f v = (List.range n).map v := by
  unfold given
  rw [List.filter_eq_self.mpr fun i hi => h i (List.mem_range.mp hi)]
theorem et_yes {σ : L2.St} {H : Hp} : EvT tYes σ H true := fun H1 _ _ q => q H1 (Ex.refl H1)
theorem ev_int {σ : L2.St} {H : Hp} {te : TE} {i : Int} (h : Ev te σ H (.int i)) : Ev (tCB rInt (tCons te tNil)) σ H (.int i) := fun H1 e Q q => h H1 e _ fun H2 e2 => .inl ⟨i, rfl, q H2 e2⟩
theorem ev_max {K : PySem.W.Frag} {σ : L2.St} {H : Hp} {te : TE} {ns : List Int} {m : Int} (h : EvL te σ H (ns.map V.int)) (hm : m ∈ ns) (hb : ∀ x ∈ ns, x ≤ m) : Ev (tCB (rMax K) (tCons te tNil)) σ H (.int m) := fun H1 e Q q =>
  h H1 e _ fun p H2 hp e2 h2 => ⟨p, ns, rfl, SqL.of h2, List.length_pos_of_mem hm, fun m' hm' hb' => by
    have : m' = m := by
      have h1 := hb m' hm'
      have h2 := hb' m hm
      omega
    subst this
    exact q H2 e2⟩
theorem ev_all {K : PySem.W.Frag} {σ : L2.St} {H : Hp} {te : TE} {bs : List Bool} (h : EvL te σ H (bs.map V.bl)) : Ev (tCB (rAll K) (tCons te tNil)) σ H (.bl (bs.all id)) := fun H1 e Q q =>
  h H1 e _ fun p H2 hp e2 h2 => ⟨p, bs, rfl, SqL.of h2, q H2 e2⟩
theorem el_rg {σ : L2.St} {H : Hp} {te : TE} {n : Int} (h : Ev te σ H (.int n)) (hn : 0 ≤ n ∧ n ≤ 100000) : EvL (tLstRg (tRg1 te)) σ H (nts (List.range n.toNat)) := fun H1 e Q q => h H1 e _ fun H2 e2 => by
  refine ⟨n, rfl, .of_le (by omega) (by omega) (by omega) (by omega), fun p hp => ?_⟩
  have e3 : rgV 0 n = nts (List.range n.toNat) := by
    unfold rgV nts
    rw [Int.sub_zero]
    exact List.map_congr_left fun i _ => by rw [Int.zero_add]
  rw [e3]
  exact q p _ (fresh_back e2 hp) (e2.trans (Ex.new hp)) upd_same
theorem wipe1 (σ : L2.St) (j : Nat) (x : V) : wipe ((wipe σ [j]).set j (some x)) [j] = wipe σ [j] := by
  show (((σ.set j none).set j (some x)).set j none) = σ.set j none
  rw [List.set_set, List.set_set]
theorem wv {σ : L2.St} {i j : Nat} {x y : V} (h : i ≠ j) (hi : σ[i]? = some (some y)) : ((wipe σ [j]).set j (some x))[i]? = some (some y) := by
  show (((σ.set j none).set j (some x)))[i]? = _
  rw [List.getElem?_set_ne (Ne.symm h), List.getElem?_set_ne (Ne.symm h)]
  exact hi
theorem wj {σ : L2.St} {j : Nat} {x : V} (hl : j < σ.length) : ((wipe σ [j]).set j (some x))[j]? = some (some x) := by
  show (((σ.set j none).set j (some x)))[j]? = _
  rw [List.set_set, List.getElem?_set_self hl]
end Lm

namespace Lm
open PySem L2 Evl
/-- a new place is told -/
def EvP (CW CE CP : Addr) (te : TE) (σ : L2.St) (H : Hp) (e wk : Addr) (nm : Str) (ws : List Str) (S : Nat → Bool) (n x : Nat) : Prop := ∀ H1, Ex H H1 → ∀ Q : VK, (∀ q H2, H1 q = none → Ex H1 H2 → PlAt CW CE CP H2 q e wk nm ws S n x → Q (.ref q) H2) → te σ H1 Q
section
variable {K : PySem.W.Frag} {CW CE CP : Addr} {σ : L2.St} {H : Hp} {p e wk q e' wk' : Addr} {nm : Str} {ws : List Str} {S T : Nat → Bool} {n x n' x' : Nat} {ta tb : TE}
theorem ev_cut (h : Ev ta σ H (.ref p)) (hp : PlAt CW CE CP H p e wk nm ws S n x) : Ev (tProp CP (spPlCut CW CE CP) [] E0 ta) σ H (.int x) := fun H1 e1 Q k => h H1 e1 _ fun H2 e2 => by
  have hp2 := hp.same (Ex.trans e1 e2)
  obtain ⟨dx, h1⟩ := hp2.ob
  exact ⟨p, dx, _, rfl, h1, p, e, wk, nm, ws, S, n, x, rfl, hp2, k H2 e2⟩
theorem ev_count (W : PlTxt K CP) (h : Ev ta σ H (.ref p)) (hp : PlAt CW CE CP H p e wk nm ws S n x) : Ev (tFld K ta "count") σ H (.int n) := fun H1 e1 Q k => h H1 e1 _ fun H2 e2 => by
  obtain ⟨dx, h1⟩ := (hp.same (Ex.trans e1 e2)).ob
  exact ⟨p, CP, dx, _, _, rfl, h1, W.cl, W.nC, pl_count _ _, k H2 e2⟩
theorem ev_edition (W : PlTxt K CP) (h : Ev ta σ H (.ref p)) (hp : PlAt CW CE CP H p e wk nm ws S n x) : Ev (tFld K ta "edition") σ H (.ref e) := fun H1 e1 Q k => h H1 e1 _ fun H2 e2 => by
  obtain ⟨dx, h1⟩ := (hp.same (Ex.trans e1 e2)).ob
  exact ⟨p, CP, dx, _, _, rfl, h1, W.cl, W.nE, pl_edition _ _, k H2 e2⟩
theorem ev_countP (W : PlTxt K CP) (h : EvP CW CE CP ta σ H e wk nm ws S n x) : Ev (tFld K ta "count") σ H (.int n) := fun H1 e1 Q k => h H1 e1 _ fun p H2 np e2 hp => by
  obtain ⟨dx, h1⟩ := hp.ob
  exact ⟨p, CP, dx, _, _, rfl, h1, W.cl, W.nC, pl_count _ _, k H2 e2⟩
theorem ev_edlen (h : Ev ta σ H (.ref e)) (he : EdAt CW CE H e wk nm ws S) (hw : WOk ws) : Ev (tCB (rLenOwn CE (spEdLen CW CE) E0) (tCons ta tNil)) σ H (.int (cnt S ws.length : Nat)) := fun H1 e1 Q k => h H1 e1 _ fun H2 e2 => by
  have he2 := he.same (Ex.trans e1 e2)
  obtain ⟨de, t, u, v, o1, _⟩ := id he2.ob
  refine ⟨e, de, _, rfl, o1, e, wk, nm, ws, S, rfl, he2, cnt S ws.length, rfl, ?_, k H2 e2⟩
  have h1 := idx_len ws.length S
  have h2 := hw.l1
  show (cnt S ws.length) < 2 ^ 62
  unfold cnt
  omega
theorem ev_ker {c : Nat} (h : Ev ta σ H (.ref e)) (h2 : Ev tb σ H (.int c)) (he : EdAt CW CE H e wk nm ws S) (hw : WOk ws) (hc : c ≤ ws.length) : Ev (tMeth CE "kernel" (spKernel CW CE) [] E0 ta (tCons tb tNil)) σ H (.int (ker S c : Nat)) := fun H1 e1 Q k => h H1 e1 _ fun H2 e2 => by
  have he2 := he.same (Ex.trans e1 e2)
  obtain ⟨de, t, u, v, o1, _⟩ := id he2.ob
  refine ⟨e, de, _, rfl, o1, ed_no _ _ _ _ (by decide +kernel) (by decide +kernel) (by decide +kernel) (by decide +kernel), ?_⟩
  exact h2 H2 (Ex.trans e1 e2) _ fun H3 e3 => ⟨e, wk, c, nm, ws, S, rfl, he2.same e3, hw.l1, hc, k H3 (Ex.trans e2 e3)⟩
theorem ev_ord {g : Int → Int → Bool} (h1 : Ev ta σ H (.ref p)) (h2 : Ev tb σ H (.ref q)) (hp : PlAt CW CE CP H p e wk nm ws S n x) (hq : PlAt CW CE CP H q e' wk' nm ws T n' x') : Ev (tOp (rBinOwn CP (spOrd CW CE CP g) E0) ta tb) σ H (.bl (g x x')) := fun H1 e1 Q k =>
  h1 H1 e1 _ fun H2 e2 => h2 H2 (Ex.trans e1 e2) _ fun H3 e3 => by
    have hp3 := hp.same (Ex.trans e1 (Ex.trans e2 e3))
    have hq3 := hq.same (Ex.trans e1 (Ex.trans e2 e3))
    obtain ⟨dx, a1⟩ := hp3.ob
    obtain ⟨dy, a2⟩ := hq3.ob
    exact ⟨p, dx, _, q, dy, _, rfl, rfl, a1, a2, p, e, wk, q, e', wk', nm, ws, S, T, n, x, n', x', rfl, hp3, hq3, k H3 (Ex.trans e2 e3)⟩
theorem ev_ordP {g : Int → Int → Bool} (h1 : EvP CW CE CP ta σ H e wk nm ws S n x) (h2 : Ev tb σ H (.ref q)) (hq : PlAt CW CE CP H q e' wk' nm ws T n' x') : Ev (tOp (rBinOwn CP (spOrd CW CE CP g) E0) ta tb) σ H (.bl (g x x')) := fun H1 e1 Q k =>
  h1 H1 e1 _ fun p H2 np e2 hp => h2 H2 (Ex.trans e1 e2) _ fun H3 e3 => by
    have hp3 := hp.same e3
    have hq3 := hq.same (Ex.trans e1 (Ex.trans e2 e3))
    obtain ⟨dx, a1⟩ := hp3.ob
    obtain ⟨dy, a2⟩ := hq3.ob
    exact ⟨p, dx, _, q, dy, _, rfl, rfl, a1, a2, p, e, wk, q, e', wk', nm, ws, S, T, n, x, n', x', rfl, hp3, hq3, k H3 (Ex.trans e2 e3)⟩
theorem ev_diff (h1 : Ev ta σ H (.ref p)) (h2 : Ev tb σ H (.ref q)) (hp : PlAt CW CE CP H p e wk nm ws S n x) (hq : PlAt CW CE CP H q e' wk' nm ws T n' x') : Ev (tOp (rBinOwn CP (spDiff CW CE CP) E0) ta tb) σ H (.int ((x : Int) - (x' : Int))) := fun H1 e1 Q k =>
  h1 H1 e1 _ fun H2 e2 => h2 H2 (Ex.trans e1 e2) _ fun H3 e3 => by
    have hp3 := hp.same (Ex.trans e1 (Ex.trans e2 e3))
    have hq3 := hq.same (Ex.trans e1 (Ex.trans e2 e3))
    obtain ⟨dx, a1⟩ := hp3.ob
    obtain ⟨dy, a2⟩ := hq3.ob
    exact ⟨p, dx, _, q, dy, _, rfl, rfl, a1, a2, p, e, wk, q, e', wk', nm, ws, S, T, n, x, n', x', rfl, hp3, hq3, k H3 (Ex.trans e2 e3)⟩
theorem ev_div {g : Int → Int → Int} {k : Nat} (h1 : Ev ta σ H (.ref p)) (h2 : Ev tb σ H (.int k)) (hp : PlAt CW CE CP H p e wk nm ws S n x) (hk : 1 ≤ k) (hk2 : k < 1000000) : Ev (tOp (rBinInt CP (spDiv CW CE CP g) E0) ta tb) σ H (.int (g n k)) := fun H1 e1 Q kk =>
  h1 H1 e1 _ fun H2 e2 => h2 H2 (Ex.trans e1 e2) _ fun H3 e3 => by
    have hp3 := hp.same (Ex.trans e1 (Ex.trans e2 e3))
    obtain ⟨dx, a1⟩ := hp3.ob
    exact ⟨p, dx, _, (k : Int), rfl, rfl, a1, p, e, wk, nm, ws, S, n, x, k, rfl, hp3, hk, hk2, kk H3 (Ex.trans e2 e3)⟩
theorem evp_seen (h1 : Ev ta σ H (.ref p)) (h2 : Ev tb σ H (.ref e')) (hp : PlAt CW CE CP H p e wk nm ws S n x) (he : EdAt CW CE H e' wk' nm ws T) : EvP CW CE CP (tMeth CP "seen" (spSeen CW CE CP) [] E0 ta (tCons tb tNil)) σ H e' wk' nm ws T (cnt T x) (ker T x) := fun H1 e1 Q k =>
  h1 H1 e1 _ fun H2 e2 => by
    obtain ⟨dx, a1⟩ := (hp.same (Ex.trans e1 e2)).ob
    refine ⟨p, dx, _, rfl, a1, pl_no _ _ (by decide +kernel) (by decide +kernel), ?_⟩
    exact h2 H2 (Ex.trans e1 e2) _ fun H3 e3 => ⟨p, e, wk, e', wk', nm, ws, S, T, n, x, rfl, hp.same (Ex.trans e1 (Ex.trans e2 e3)), he.same (Ex.trans e1 (Ex.trans e2 e3)), fun q H4 nq e4 hq => k q H4 (fresh_back (Ex.trans e2 e3) nq) (Ex.trans (Ex.trans e2 e3) e4) hq⟩
theorem evp_mv {g : Int → Int} {i : Int} (h1 : Ev ta σ H (.ref p)) (h2 : Ev tb σ H (.int i)) (hp : PlAt CW CE CP H p e wk nm ws S n x) : EvP CW CE CP (tOp (rBinInt CP (spMoved CW CE CP g) E0) ta tb) σ H e wk nm ws S (mv S ws.length n (g i)) (cutN S ws.length (mv S ws.length n (g i))) := fun H1 e1 Q k =>
  h1 H1 e1 _ fun H2 e2 => h2 H2 (Ex.trans e1 e2) _ fun H3 e3 => by
    have hp3 := hp.same (Ex.trans e1 (Ex.trans e2 e3))
    obtain ⟨dx, a1⟩ := hp3.ob
    exact ⟨p, dx, _, i, rfl, rfl, a1, p, e, wk, nm, ws, S, n, x, i, rfl, hp3, fun q H4 nq e4 hq => k q H4 (fresh_back (Ex.trans e2 e3) nq) (Ex.trans (Ex.trans e2 e3) e4) hq⟩
theorem evp_mvR {g : Int → Int} {i : Int} (h2 : Ev tb σ H (.int i)) (h1 : Ev ta σ H (.ref p)) (hp : PlAt CW CE CP H p e wk nm ws S n x) : EvP CW CE CP (tOp (rAddR CP (spMoved CW CE CP g) E0) tb ta) σ H e wk nm ws S (mv S ws.length n (g i)) (cutN S ws.length (mv S ws.length n (g i))) := fun H1 e1 Q k =>
  h2 H1 e1 _ fun H2 e2 => h1 H2 (Ex.trans e1 e2) _ fun H3 e3 => by
    have hp3 := hp.same (Ex.trans e1 (Ex.trans e2 e3))
    obtain ⟨dx, a1⟩ := hp3.ob
    exact ⟨p, dx, _, i, rfl, rfl, a1, p, e, wk, nm, ws, S, n, x, i, rfl, hp3, fun q H4 nq e4 hq => k q H4 (fresh_back (Ex.trans e2 e3) nq) (Ex.trans (Ex.trans e2 e3) e4) hq⟩
theorem q_asgP {te : TE} {tz : TS} {D : Ends} {i : Nat} (h : EvP CW CE CP te σ H e wk nm ws S n x) (k : ∀ q H1, H q = none → Ex H H1 → PlAt CW CE CP H1 q e wk nm ws S n x → tz D (σ.set i (some (.ref q))) H1) : tSeq (tAsg te (gName i)) tz D σ H := h H (Ex.refl H) _ fun q H1 nq e1 hq => k q H1 nq e1 hq
end
/-! ### the mathematics -/
theorem mv_up {S : Nat → Bool} {N n : Nat} (h : n < cnt S N) : mv S N n 1 = n + 1 := by unfold mv; omega
theorem mv_end {S : Nat → Bool} {N n : Nat} (h : n = cnt S N) : mv S N n 1 = n := by unfold mv; omega
theorem cutN_ker {S : Nat → Bool} {N x : Nat} (h : x ≤ N) : cutN S N (cnt S x) = ker S x := by
  have h1 := cuts_at S h
  unfold cutN
  rw [List.getD_eq_getElem?_getD, h1]
  rfl
theorem up_above {S : Nat → Bool} {N x : Nat} (h : x ≤ N) (hl : cnt S x < cnt S N) : x < cutN S N (cnt S x + 1) := by
  have h1 := cuts_le_iff h (cutN_at (S := S) (N := N) (n := cnt S x + 1) (by omega))
  rcases Nat.lt_or_ge x (cutN S N (cnt S x + 1)) with h2 | h2
  · exact h2
  · have := h1.mp h2
    omega
theorem cnt_ker (S : Nat → Bool) : ∀ c, cnt S (ker S c) = cnt S c
  | 0 => rfl
  | c + 1 => by
    by_cases h : S c = true
    · rw [show ker S (c + 1) = c + 1 from by rw [ker]; exact if_pos h]
    · rw [show ker S (c + 1) = ker S c from by rw [ker]; exact if_neg h, cnt_ker S c, cnt_succ, if_neg h]
      rfl
theorem vint (a b : Int) : decide (V.int a = V.int b) = decide (a = b) := decide_eq_decide.mpr ⟨fun z => V.int.inj z, fun z => congrArg V.int z⟩
theorem vbl (a b : Bool) : decide (V.bl a = V.bl b) = decide (a = b) := decide_eq_decide.mpr ⟨fun z => V.bl.inj z, fun z => congrArg V.bl z⟩
section
variable {P : Program} {w : World} {K : PySem.W.Frag} {mg : Str → Option Value} {base : Heap} {f : Addr} {fd : FuncData}
def spSeenR (CW CE CP : Addr) : Sp := fun vs H Q _ => ∃ (p e wk e' wk' : Addr) (nm : Str) (ws : List Str) (S T : Nat → Bool) (n x : Nat), vs = [.ref p, .ref e'] ∧ PlAt CW CE CP H p e wk nm ws S n x ∧ EdAt CW CE H e' wk' nm ws T ∧
  ∀ H', Same H H' → Q (.bl true) H'
abbrev s_seen_right : Stmt := top 38
theorem sc_seen_right : FnScope ["_law_x", "_law_made", "_law_y"] ["_law_x", "_law_made"] (defScope s_seen_right) := ⟨rfl, rfl, rfl, by decide +kernel, rfl, by decide +kernel, by decide +kernel⟩
structure BltP (K : PySem.W.Frag) (mg : Str → Option Value) (CP fA : Addr) : Prop extends BltM mg, PlOps K CP fA
theorem ok_seen_right {CW CE CP fS fLE fLT fGT fEQ fA fL fK fG pC : Addr} {fdS fdLE fdLT fdGT fdEQ fdA fdL fdK fdG : FuncData} (F : Fun K "_law_seen_right" "_law_seen_right" s_seen_right f fd) (T : BltP K mg CP fA) (W : PlTxt K CP)
    (M_Place_seen : MetOk P w K mg base 7 CP "seen" fS fdS ["self", "edition"] (spSeen CW CE CP))
    (M_Place_le : MetOk P w K mg base 7 CP "__le__" fLE fdLE ["self", "other"] (spOrd CW CE CP (fun i j => decide (i ≤ j)))) (M_Place_lt : MetOk P w K mg base 7 CP "__lt__" fLT fdLT ["self", "other"] (spOrd CW CE CP (fun i j => decide (i < j))))
    (M_Place_gt : MetOk P w K mg base 7 CP "__gt__" fGT fdGT ["self", "other"] (spOrd CW CE CP (fun i j => decide (j < i)))) (M_Place_eq : MetOk P w K mg base 7 CP "__eq__" fEQ fdEQ ["self", "other"] (spOrd CW CE CP fun i j => decide (i = j)))
    (M_Place_add : MetOk P w K mg base 7 CP "__add__" fA fdA ["self", "other"] (spMoved CW CE CP id)) (M_Edition_len : MetOk P w K mg base 1 CE "__len__" fL fdL ["self"] (spEdLen CW CE)) (M_Edition_kernel : MetOk P w K mg base 5 CE "kernel" fK fdK ["self", "cut"] (spKernel CW CE))
    (P_cut : PrpOk P w K mg base 5 CP pC "cut" fG fdG ["self"] (spPlCut CW CE CP)) : FnOk P w K mg base CX0 8 f fd ["_law_x", "_law_made"] (spSeenR CW CE CP) := by
  refine F.ok sc_seen_right (fun vs H Q E h => ?_) (fun cdv A outer s H vs Q E hr h => ?_)
  · obtain ⟨p, e, wk, e', wk', nm, ws, S, T, n, x, rfl, _⟩ := h
    rfl
  · obtain ⟨p, e, wk, e', wk', nm, ws, S, U, n, x, rfl, hp, he, k⟩ := h
    refine ⟨_, (pss_cons (ps_set (i := 2) sc_seen_right.nd rfl (by first | exact Or.inl rfl | exact Or.inr rfl) (pe_m M_Place_seen (hr.mono (by decide)) (pv 0) (pa_cons (pv 1) pa_nil)))
        (pss_cons (ps_if (PW.pt (pw_or (pt_not (pt_cmpR (M_Place_le.le (hr.mono (by decide))) (pv 2) (pv 0) (nomark _))) (pw_or1 (PW.pt (pw_and (pt_cmpR (M_Place_lt.lt (hr.mono (by decide))) (pv 2) (pv 0) (nomark _)) (pw_and (pt_cmpR op_lt (pe_fld (pv 2) rfl) (pe_callB (M_Edition_len.len (hr.mono (by decide))) (by rfl) T.b_len PySem.boot_len (pa_cons (pv 1) pa_nil)) (nomark _)) (pw_and1 (pt_not (pt_cmpR (M_Place_gt.gt (hr.mono (by decide))) (pe_op (M_Place_add.bini T.bi_add (hr.mono (by decide))) (pv 2) pe_int) (pv 0) (nomark _)))))))))) (pss_one (ps_ret pe_bl)) pss_nil)
        (pss_cons (ps_if (PW.pt (pw_or (PW.pt (pw_and (pt_cmpR op_eq (pe_fld (pv 2) rfl) (pe_callB (M_Edition_len.len (hr.mono (by decide))) (by rfl) T.b_len PySem.boot_len (pa_cons (pv 1) pa_nil)) (nomark _)) (pw_and1 (pt_not (pt_cmpR (M_Place_eq.eq (hr.mono (by decide))) (pe_op (M_Place_add.bini T.bi_add (hr.mono (by decide))) (pv 2) pe_int) (pv 2) (nomark _)))))) (pw_or1 (pt_not (pt_cmpR (M_Place_eq.eq (hr.mono (by decide))) (pe_m M_Place_seen (hr.mono (by decide)) (pv 2) (pa_cons (pv 1) pa_nil)) (pv 2) (nomark _)))))) (pss_one (ps_ret pe_bl)) pss_nil)
        (pss_one (ps_ret (pe_and (pe_cmpR op_eq (pe_cmpR (M_Place_eq.eq (hr.mono (by decide))) (pv 2) (pv 0) (nomark _)) (pe_cmpR op_eq (pe_m M_Edition_kernel (hr.mono (by decide)) (pv 1) (pa_cons (pe_p P_cut (hr.mono (by decide)) (pv 0)) pa_nil)) (pe_p P_cut (hr.mono (by decide)) (pv 0)) (nomark _)) (nomark _)) (pe_one (pe_cmpR op_eq (pe_p P_cut (hr.mono (by decide)) (pv 2)) (pe_m M_Edition_kernel (hr.mono (by decide)) (pv 1) (pa_cons (pe_p P_cut (hr.mono (by decide)) (pv 0)) pa_nil)) (nomark _))))))))), ?_⟩
    refine q_asgP (evp_seen (ev_var rfl) (ev_var rfl) hp he) fun y H1 ny e1 hy => ?_
    have hp1 := hp.same e1
    have he1 := he.same e1
    have hxl := hp.le
    have hkl := ker_le U x
    refine q_when (b := false) (et_is (et_or (et_not (et_test (ev_ord (ev_var rfl) (ev_var rfl) hy hp1))) fun _ => et_and (et_test (ev_ord (ev_var rfl) (ev_var rfl) hy hp1)) fun _ => et_and (et_test (ev_op (ev_count W (ev_var rfl) hy) (ev_edlen (ev_var rfl) he1 hp.ok) rv_I0)) fun _ => et_not (et_test (ev_ordP (evp_mv (ev_var rfl) ev_c hy) (ev_var rfl) hp1))) ?_) (fun z => nomatch z) fun _ H2 e2 => ?_
    · rw [decide_eq_true (show ((ker U x : Nat) : Int) ≤ (x : Int) by omega)]
      by_cases hlt : cnt U x < cnt U ws.length
      · rw [show mv U ws.length (cnt U x) (id 1) = cnt U x + 1 from mv_up hlt, decide_eq_true (show (x : Int) < (cutN U ws.length (cnt U x + 1) : Nat) by have := up_above hxl hlt; omega)]
        simp
      · rw [decide_eq_false (show ¬ ((cnt U x : Nat) : Int) < ((cnt U ws.length : Nat) : Int) by omega)]
        simp
    have hp2 := hp1.same e2
    have he2 := he1.same e2
    have hy2 := hy.same e2
    refine q_when (b := false) (et_is (et_or (et_and (et_test (ev_op (ev_count W (ev_var rfl) hy2) (ev_edlen (ev_var rfl) he2 hp.ok) (rv_eq rfl))) fun _ => et_not (et_test (ev_ordP (evp_mv (ev_var rfl) ev_c hy2) (ev_var rfl) hy2))) fun _ => et_not (et_test (ev_ordP (evp_seen (ev_var rfl) (ev_var rfl) hy2 he2) (ev_var rfl) hy2))) ?_) (fun z => nomatch z) fun _ H3 e3 => ?_
    · rw [vint, decide_eq_true (show ((ker U (ker U x) : Nat) : Int) = (ker U x : Nat) by rw [ker_idem])]
      by_cases heq : cnt U x = cnt U ws.length
      · rw [show mv U ws.length (cnt U x) (id 1) = cnt U x from mv_end heq, cutN_ker hxl]
        simp
      · rw [decide_eq_false (show ¬ ((cnt U x : Nat) : Int) = ((cnt U ws.length : Nat) : Int) by omega)]
        simp
    have hp3 := hp2.same e3
    have he3 := he2.same e3
    have hy3 := hy2.same e3
    refine s_ret (ev_is (ev_andV (ev_op (ev_ord (ev_var rfl) (ev_var rfl) hy3 hp3) (ev_op (ev_ker (ev_var rfl) (ev_cut (ev_var rfl) hp3) he3 hp.ok hxl) (ev_cut (ev_var rfl) hp3) (rv_eq rfl)) (rv_eq rfl)) fun _ => ev_op (ev_cut (ev_var rfl) hy3) (ev_ker (ev_var rfl) (ev_cut (ev_var rfl) hp3) he3 hp.ok hxl) (rv_eq rfl)) ?_) fun H4 e4 => k H4 (Ex.trans e1 (Ex.trans e2 (Ex.trans e3 e4)))
    rw [vint, vint]
    simp
end
end Lm

namespace Lm
open PySem L2 Evl
def refs (l : List Addr) : List V := l.map V.ref
theorem refs_len (l : List Addr) : (refs l).length = l.length := List.length_map ..
theorem refs_at {l : List Addr} {i : Nat} {a : Addr} (h : l[i]? = some a) : (refs l)[i]? = some (.ref a) := by
  unfold refs
  rw [List.getElem?_map, h]
  rfl
theorem refs_inv {l : List Addr} {i : Nat} {x : V} (h : (refs l)[i]? = some x) : ∃ a, l[i]? = some a ∧ x = .ref a := by
  unfold refs at h
  rw [List.getElem?_map] at h
  cases e : l[i]? with
  | none => rw [e] at h; cases h
  | some a => rw [e] at h; exact ⟨a, rfl, (Option.some.inj h).symm⟩
section
variable {CW CE CP : Addr} {σ : L2.St} {H : Hp} {e wk e' wk' : Addr} {nm : Str} {ws : List Str} {S T : Nat → Bool} {n x n' x' : Nat} {ta tb : TE} {tz : TS} {D : Ends} {i j : Nat}
theorem q_par {y z : V} (h1 : Ev ta σ H y) (h2 : Ev tb σ H z) (k : ∀ H1, Ex H H1 → tz D ((σ.set i (some y)).set j (some z)) H1) : tSeq (tPar i j (tCons ta (tCons tb tNil))) tz D σ H :=
  h1 H (Ex.refl H) _ fun H1 e1 => h2 H1 e1 _ fun H2 e2 => ⟨y, z, rfl, k H2 (Ex.trans e1 e2)⟩
theorem q_parP (h1 : EvP CW CE CP ta σ H e wk nm ws S n x) (h2 : EvP CW CE CP tb σ H e' wk' nm ws T n' x') (k : ∀ a b H1, Ex H H1 → PlAt CW CE CP H1 a e wk nm ws S n x → PlAt CW CE CP H1 b e' wk' nm ws T n' x' → tz D ((σ.set i (some (.ref a))).set j (some (.ref b))) H1) :
    tSeq (tPar i j (tCons ta (tCons tb tNil))) tz D σ H :=
  h1 H (Ex.refl H) _ fun a H1 na e1 ha => h2 H1 e1 _ fun b H2 nb e2 hb => ⟨.ref a, .ref b, rfl, k a b H2 (Ex.trans e1 e2) (ha.same e2) hb⟩
theorem sv_seenR {p : Addr} (hp : PlAt CW CE CP H p e wk nm ws S n x) (he : EdAt CW CE H e' wk' nm ws T) : SpV (spSeenR CW CE CP) ([.ref p, .ref e'] ++ []) H (.bl true) := fun H1 e1 Q k E =>
  ⟨p, e, wk, e', wk', nm, ws, S, T, n, x, rfl, hp.same e1, he.same e1, fun H' s => k H' s⟩
end
section
variable {P : Program} {w : World} {K : PySem.W.Frag} {mg : Str → Option Value} {base : Heap} {f : Addr} {fd : FuncData}
/-- a list of editions of works that are equal -/
def EdL (CW CE : Addr) (H : Hp) (l : Addr) (nm : Str) (ws : List Str) (es : List Addr) : Prop := H l = some (.lst (refs es)) ∧ ∀ a ∈ es, ∃ wk T, EdAt CW CE H a wk nm ws T
theorem EdL.same {CW CE : Addr} {H H' : Hp} {l : Addr} {nm : Str} {ws : List Str} {es : List Addr} (h : EdL CW CE H l nm ws es) (s : Same H H') : EdL CW CE H' l nm ws es :=
  ⟨s _ _ h.1, fun a ha => let ⟨wk, T, k⟩ := h.2 a ha; ⟨wk, T, k.same s⟩⟩
def spChain (CW CE CP : Addr) : Sp := fun vs H Q _ => ∃ (p e wk q e' wk' l : Addr) (nm : Str) (ws : List Str) (S T : Nat → Bool) (n x n' x' : Nat) (es : List Addr), vs = [.ref p, .ref q, .ref l] ∧ PlAt CW CE CP H p e wk nm ws S n x ∧ PlAt CW CE CP H q e' wk' nm ws T n' x' ∧ EdL CW CE H l nm ws es ∧
  ∀ H', Same H H' → Q (.bl true) H'
abbrev s_chain_right : Stmt := top 40
theorem sc_chain_right : FnScope ["_law_x", "_law_y", "_law_others", "_law_far", "_law_made", "_law_ahead"] ["_law_x", "_law_y", "_law_others"] (defScope s_chain_right) := ⟨rfl, rfl, rfl, by decide +kernel, rfl, by decide +kernel, by decide +kernel⟩
theorem ok_chain_right {CW CE CP fS fLE fR fK fG pC : Addr} {fdS fdLE fdR fdK fdG : FuncData} (F : Fun K "_law_chain_right" "_law_chain_right" s_chain_right f fd) (W : PlTxt K CP)
    (M_Place_seen : MetOk P w K mg base 7 CP "seen" fS fdS ["self", "edition"] (spSeen CW CE CP)) (D_seen_right : DefOk P w K mg base 8 "_law_seen_right" fR fdR ["_law_x", "_law_made"] (spSeenR CW CE CP))
    (M_Place_le : MetOk P w K mg base 7 CP "__le__" fLE fdLE ["self", "other"] (spOrd CW CE CP (fun i j => decide (i ≤ j)))) (M_Edition_kernel : MetOk P w K mg base 5 CE "kernel" fK fdK ["self", "cut"] (spKernel CW CE))
    (P_cut : PrpOk P w K mg base 5 CP pC "cut" fG fdG ["self"] (spPlCut CW CE CP)) : FnOk P w K mg base CX0 9 f fd ["_law_x", "_law_y", "_law_others"] (spChain CW CE CP) := by
  refine F.ok sc_chain_right (fun vs H Q E h => ?_) (fun cdv A outer s H vs Q E hr h => ?_)
  · obtain ⟨p, e, wk, q, e', wk', l, nm, ws, S, T, n, x, n', x', es, rfl, _⟩ := h
    rfl
  · obtain ⟨p, e, wk, q, e', wk', l, nm, ws, S, T, n, x, n', x', es, rfl, hp, hq, hl, k⟩ := h
    refine ⟨_, (pss_cons (ps_set (i := 3) sc_chain_right.nd rfl (by first | exact Or.inl rfl | exact Or.inr rfl) (pe_p P_cut (hr.mono (by decide)) (pv 0)))
        (pss_cons (ps_for PassesOwn.never rfl (pi_list (pv 2)) (pg_name (i := 4) sc_chain_right.nd rfl (by first | exact Or.inl rfl | exact Or.inr rfl)) (pss_cons (ps_if (PW.pt (pw_or (pt_not (pt_val (pe_d D_seen_right (hr.mono (by decide)) (pa_cons (pv 0) (pa_cons (pv 4) pa_nil))))) (pw_or1 (pt_not (pt_val (pe_d D_seen_right (hr.mono (by decide)) (pa_cons (pv 1) (pa_cons (pv 4) pa_nil)))))))) (pss_one (ps_ret pe_bl)) pss_nil)
        (pss_cons (ps_par (i := 3) (j := 5) (by rfl) sc_chain_right.nd rfl rfl (by decide) rfl rfl (pa_cons (pe_m M_Edition_kernel (hr.mono (by decide)) (pv 4) (pa_cons (pv 3) pa_nil)) (pa_cons (pe_cmpR (M_Place_le.le (hr.mono (by decide))) (pv 0) (pv 1) (nomark _)) pa_nil)) (by rfl))
        (pss_cons (ps_par (i := 0) (j := 1) (by rfl) sc_chain_right.nd rfl rfl (by decide) rfl rfl (pa_cons (pe_m M_Place_seen (hr.mono (by decide)) (pv 0) (pa_cons (pv 4) pa_nil)) (pa_cons (pe_m M_Place_seen (hr.mono (by decide)) (pv 1) (pa_cons (pv 4) pa_nil)) pa_nil)) (by rfl))
        (pss_one (ps_if (PW.pt (pw_or (pt_cmpR op_ne (pe_p P_cut (hr.mono (by decide)) (pv 0)) (pv 3) (nomark _)) (pw_or1 (PW.pt (pw_and (pt_val (pv 5)) (pw_and1 (pt_not (pt_cmpR (M_Place_le.le (hr.mono (by decide))) (pv 0) (pv 1) (nomark _))))))))) (pss_one (ps_ret pe_bl)) pss_nil))))))
        (pss_one (ps_ret pe_bl)))), ?_⟩
    refine q_asg (ev_cut (ev_var rfl) hp) fun H1 e1 => ?_
    refine q_forLn (K := K) (a := l) (xs := refs es) (ev_var rfl) (SqL.of (e1 _ _ hl.1)) (fun _ σ' H' => Same H H' ∧ ∃ (p q e wk e' wk' : Addr) (S T : Nat → Bool) (n x n' x' : Nat) (u v : Option V), σ' = [some (.ref p), some (.ref q), some (.ref l), some (.int x), u, v] ∧ PlAt CW CE CP H' p e wk nm ws S n x ∧ PlAt CW CE CP H' q e' wk' nm ws T n' x')
      (fun H2 e2 => ⟨Ex.trans e1 e2, p, q, e, wk, e', wk', S, T, n, x, n', x', _, _, rfl, hp.same (Ex.trans e1 e2), hq.same (Ex.trans e1 e2)⟩) (fun i σ' H' _ p => SqL.of (p.1 _ _ hl.1)) ?_ ?_
    · rintro i y σ' H' hy ⟨e2, p, q, e, wk, e', wk', S, T, n, x, n', x', u, v, rfl, hp, hq⟩
      obtain ⟨a, ha, rfl⟩ := refs_inv hy
      obtain ⟨wa, U, hU⟩ := hl.2 a (List.mem_of_getElem? ha)
      have hU := hU.same e2
      have hxl := hp.le
      have hxl' := hq.le
      refine q_when (b := false) (et_is (et_or (et_not (et_B (ev_call (ea_cons (ev_var rfl) (ea_cons (ev_var rfl) ea_nil)) (sv_seenR hp hU)))) fun _ => et_not (et_B (ev_call (ea_cons (ev_var rfl) (ea_cons (ev_var rfl) ea_nil)) (sv_seenR hq hU)))) rfl) (fun z => nomatch z) fun _ H3 e3 => ?_
      refine q_par (ev_ker (ev_var rfl) (ev_var rfl) (hU.same e3) hp.ok hxl) (ev_ord (ev_var rfl) (ev_var rfl) (hp.same e3) (hq.same e3)) fun H4 e4 => ?_
      have e34 := Ex.trans e3 e4
      refine q_parP (evp_seen (ev_var rfl) (ev_var rfl) (hp.same e34) (hU.same e34)) (evp_seen (ev_var rfl) (ev_var rfl) (hq.same e34) (hU.same e34)) fun a1 b1 H5 e5 ha1 hb1 => ?_
      refine s_when (b := false) (et_is (et_or (et_test (ev_op (ev_cut (ev_var rfl) ha1) (ev_var rfl) (rv_ne rfl))) fun _ => et_and (et_B (ev_var rfl)) fun _ => et_not (et_test (ev_ord (ev_var rfl) (ev_var rfl) ha1 hb1))) ?_) (fun z => nomatch z) fun _ H6 e6 => ⟨Ex.trans e2 (Ex.trans e34 (Ex.trans e5 e6)), a1, b1, _, _, _, _, _, _, _, _, _, _, _, _, rfl, ha1.same e6, hb1.same e6⟩
      rw [vint]
      by_cases hle : x ≤ x'
      · have := ker_mono U hle
        rw [decide_eq_true (show ((ker U x : Nat) : Int) ≤ (ker U x' : Nat) by omega)]
        simp
      · rw [decide_eq_false (show ¬ ((x : Nat) : Int) ≤ (x' : Nat) by omega)]
        simp
    · rintro σ' H' ⟨e2, p, q, e, wk, e', wk', S, T, n, x, n', x', u, v, rfl, hp, hq⟩
      exact s_ret ev_c fun H3 e3 => k H3 (Ex.trans e2 e3)
def spMovesR (CW CE CP : Addr) : Sp := fun vs H Q _ => ∃ (st c p e wk : Addr) (nm : Str) (ws : List Str) (S : Nat → Bool) (n x : Nat), vs = [.ref st, .ref p] ∧ StAt H st c ∧ PlAt CW CE CP H p e wk nm ws S n x ∧
  ∀ H', StAt H' st c → Kp st H H' → Q (.bl true) H'
abbrev s_moves_right : Stmt := top 39
theorem sc_moves_right : FnScope ["_law_state", "_law_x", "_law_n", "_law_k", "_law_y"] ["_law_state", "_law_x"] (defScope s_moves_right) := ⟨rfl, rfl, rfl, by decide +kernel, rfl, by decide +kernel, by decide +kernel⟩
theorem mv_in {S : Nat → Bool} {N n : Nat} {i : Int} (h1 : 0 ≤ (n : Int) + i) (h2 : (n : Int) + i ≤ (cnt S N : Nat)) : ((mv S N n i : Nat) : Int) = n + i := by unfold mv; omega
theorem cut_mono {S : Nat → Bool} {N n m x : Nat} (hx : (cutsL N S)[n]? = some x) (hm : m ≤ cnt S N) : x ≤ cutN S N m ↔ n ≤ m := by
  have h1 := cutN_at hm
  have h2 := cnt_cuts h1
  rw [cuts_le_iff h2.1 hx, h2.2]
theorem ok_moves_right {CW CE CP fT fGE fA fB fR fD fM fL : Addr} {fdT fdGE fdA fdB fdR fdD fdM fdL : FuncData} (F : Fun K "_law_moves_right" "_law_moves_right" s_moves_right f fd) (T : BltP K mg CP fA) (W : PlTxt K CP) (D_take : DefOk P w K mg base 2 "_law_take" fT fdT ["_law_state", "_law_many"] spTake)
    (M_Place_add : MetOk P w K mg base 7 CP "__add__" fA fdA ["self", "other"] (spMoved CW CE CP id)) (M_Place_subI : MetOk P w K mg base 7 CP "__sub__" fB fdB ["self", "other"] (spMoved CW CE CP fun i => -i)) (M_Place_radd : MetOk P w K mg base 8 CP "__radd__" fR fdR ["self", "other"] (spMoved CW CE CP id))
    (M_Place_ge : MetOk P w K mg base 7 CP "__ge__" fGE fdGE ["self", "other"] (spOrd CW CE CP (fun i j => decide (j ≤ i)))) (M_Place_floordiv : MetOk P w K mg base 2 CP "__floordiv__" fD fdD ["self", "other"] (spDiv CW CE CP Int.fdiv)) (M_Place_mod : MetOk P w K mg base 2 CP "__mod__" fM fdM ["self", "other"] (spDiv CW CE CP Int.fmod))
    (M_Edition_len : MetOk P w K mg base 1 CE "__len__" fL fdL ["self"] (spEdLen CW CE)) : FnOk P w K mg base CX0 9 f fd ["_law_state", "_law_x"] (spMovesR CW CE CP) := by
  refine F.ok sc_moves_right (fun vs H Q E h => ?_) (fun cdv A outer s H vs Q E hr h => ?_)
  · obtain ⟨st, c, p, e, wk, nm, ws, S, n, x, rfl, _⟩ := h
    rfl
  · obtain ⟨st, c, p, e, wk, nm, ws, S, n, x, rfl, S0, hp, k⟩ := h
    refine ⟨_, (pss_cons (ps_par (i := 2) (j := 3) (by rfl) sc_moves_right.nd rfl rfl (by decide) rfl rfl (pa_cons (pe_op op_sub (pe_d D_take (hr.mono (by decide)) (pa_cons (pv 0) (pa_cons pe_int pa_nil))) pe_int) (pa_cons (pe_op op_add pe_int (pe_d D_take (hr.mono (by decide)) (pa_cons (pv 0) (pa_cons pe_int pa_nil)))) pa_nil)) (by rfl))
        (pss_cons (ps_set (i := 4) sc_moves_right.nd rfl (by first | exact Or.inl rfl | exact Or.inr rfl) (pe_op (M_Place_add.bini T.bi_add (hr.mono (by decide))) (pv 1) (pv 2)))
        (pss_cons (ps_if (PW.pt (pw_and (pt_cmpR op_ge (pe_op op_add (pe_fld (pv 1) rfl) (pv 2)) pe_int (nomark _)) (pw_and (pt_cmpR op_le (pe_op op_add (pe_fld (pv 1) rfl) (pv 2)) (pe_callB (M_Edition_len.len (hr.mono (by decide))) (by rfl) T.b_len PySem.boot_len (pa_cons (pe_fld (pv 1) rfl) pa_nil)) (nomark _)) (pw_and1 (pt_not (pt_cmpR op_eq (pe_fld (pe_op (M_Place_subI.bini T.bi_sub (hr.mono (by decide))) (pv 4) (pv 2)) rfl) (pe_fld (pv 1) rfl) (nomark _))))))) (pss_one (ps_ret pe_bl)) pss_nil)
        (pss_cons (ps_if (PW.pt (pw_or (pt_cmpR op_ne (pe_cmpR (M_Place_ge.ge (hr.mono (by decide))) (pv 4) (pv 1) (nomark _)) (pe_cmpR op_ge (pe_fld (pv 4) rfl) (pe_fld (pv 1) rfl) (nomark _)) (nomark _)) (pw_or (pt_cmpR op_ne (pe_op op_add (pe_op op_mul (pe_op (M_Place_floordiv.bini T.bi_floordiv (hr.mono (by decide))) (pv 1) (pv 3)) (pv 3)) (pe_op (M_Place_mod.bini T.bi_mod (hr.mono (by decide))) (pv 1) (pv 3))) (pe_fld (pv 1) rfl) (nomark _)) (pw_or1 (pt_cmpR op_ge (pe_op (M_Place_mod.bini T.bi_mod (hr.mono (by decide))) (pv 1) (pv 3)) (pv 3) (nomark _)))))) (pss_one (ps_ret pe_bl)) pss_nil)
        (pss_one (ps_ret (pe_and (pe_cmpR op_eq (pe_fld (pe_op (M_Place_radd.addr T.sf_Place T.at_add T.si_Place (hr.mono (by decide))) (pv 2) (pv 1)) rfl) (pe_fld (pe_op (M_Place_subI.bini T.bi_sub (hr.mono (by decide))) (pv 1) (pe_op op_sub pe_int (pv 2))) rfl) (nomark _)) (pe_one (pe_cmpR op_eq (pe_fld (pe_op (M_Place_add.bini T.bi_add (hr.mono (by decide))) (pv 1) pe_int) rfl) (pe_fld (pv 1) rfl) (nomark _)))))))))), ?_⟩
    obtain ⟨xs0, hst⟩ := S0.neL
    refine ⟨_, rfl, st, c, _, rfl, S0, by omega, by omega, fun a H1 a0 a1 S1 e1 => ?_⟩
    refine ⟨_, _, rfl, rfl, ?_⟩
    refine ⟨_, rfl, st, c, _, rfl, S1, by omega, by omega, fun b H2 b0 b1 S2 e2 => ?_⟩
    refine ⟨_, _, rfl, rfl, _, _, rfl, ?_⟩
    have hp2 := hp.kp (e1.trans e2) hst
    obtain ⟨bn, rfl⟩ := Int.eq_ofNat_of_zero_le b0
    obtain ⟨i, hi⟩ : ∃ i : Int, a - 20 = i := ⟨_, rfl⟩
    have hn := cnt_of_cuts hp.at_
    refine q_asgP (evp_mv (ev_var rfl) (ev_var rfl) hp2) fun y H3 ny e3 hy => ?_
    have hp3 := hp2.same e3
    have m1 := mv_le S ws.length n i
    refine q_when (b := false) (et_is (et_and (et_test (ev_op (ev_op (ev_count W (ev_var rfl) hp3) (ev_var rfl) rv_I0) ev_c rv_I0)) fun _ => et_and (et_test (ev_op (ev_op (ev_count W (ev_var rfl) hp3) (ev_var rfl) rv_I0) (ev_edlen (ev_edition W (ev_var rfl) hp3) hp3.ed hp3.ok) rv_I0)) fun _ => et_not (et_test (ev_op (ev_countP W (evp_mv (ev_var rfl) (ev_var rfl) hy)) (ev_count W (ev_var rfl) hp3) (rv_eq rfl)))) ?_) (fun z => nomatch z) fun _ H4 e4 => ?_
    · rw [vint, hi]
      by_cases c1 : (0 : Int) ≤ (n : Int) + i
      · by_cases c2 : (n : Int) + i ≤ (cnt S ws.length : Nat)
        · have q1 := mv_in c1 c2
          have q2 : ((mv S ws.length (mv S ws.length n i) (-i) : Nat) : Int) = n := by
            rw [mv_in (by omega) (by omega)]
            omega
          rw [decide_eq_true (show ((mv S ws.length (mv S ws.length n (id i)) (-i) : Nat) : Int) = n from q2)]
          simp
        · rw [decide_eq_false c2]
          simp
      · rw [decide_eq_false c1]
        rfl
    have hp4 := hp3.same e4
    have hy4 := hy.same e4
    have ek : V.int (1 + (bn : Int)) = V.int ((bn + 1 : Nat) : Int) := congrArg V.int (by omega)
    refine q_when (b := false) (et_is (et_or (et_test (ev_op (ev_ord (ev_var rfl) (ev_var rfl) hy4 hp4) (ev_op (ev_count W (ev_var rfl) hy4) (ev_count W (ev_var rfl) hp4) rv_I0) (rv_ne rfl))) fun _ => et_or (et_test (ev_op (ev_op (ev_op (ev_div (k := bn + 1) (ev_var rfl) (ev_is (ev_var rfl) ek) hp4 (by omega) (by omega)) (ev_is (ev_var rfl) ek) (rv_I (.inr ⟨by omega, by omega⟩))) (ev_div (k := bn + 1) (ev_var rfl) (ev_is (ev_var rfl) ek) hp4 (by omega) (by omega)) rv_I0) (ev_count W (ev_var rfl) hp4) (rv_ne rfl))) fun _ => et_test (ev_op (ev_div (k := bn + 1) (ev_var rfl) (ev_is (ev_var rfl) ek) hp4 (by omega) (by omega)) (ev_is (ev_var rfl) ek) rv_I0)) ?_) (fun z => nomatch z) fun _ H5 e5 => ?_
    · rw [vbl, vint, hi]
      have w1 := cut_mono hp.at_ m1
      have w2 := Int.fmod_lt_of_pos (n : Int) (show (0 : Int) < ((bn + 1 : Nat) : Int) by omega)
      have w4 : (n : Int).fdiv ((bn + 1 : Nat) : Int) * ((bn + 1 : Nat) : Int) + (n : Int).fmod ((bn + 1 : Nat) : Int) = n := Int.fdiv_mul_add_fmod _ _
      rw [decide_eq_true w4, decide_eq_false (show ¬ (((bn + 1 : Nat) : Int) ≤ (n : Int).fmod ((bn + 1 : Nat) : Int)) by omega)]
      have w5 : decide ((x : Int) ≤ (cutN S ws.length (mv S ws.length n (id i)) : Nat)) = decide ((n : Int) ≤ (mv S ws.length n (id i) : Nat)) := decide_eq_decide.mpr ⟨fun z => by have := w1.mp (by simpa using z); simpa using this, fun z => by have := w1.mpr (by simpa using z); simpa using this⟩
      rw [w5]
      simp
    have hp5 := hp4.same e5
    refine s_ret (v := .bl true) (ev_is (ev_andV (ev_op (ev_countP W (evp_mvR (ev_var rfl) (ev_var rfl) hp5)) (ev_countP W (evp_mv (ev_var rfl) (ev_op ev_c (ev_var rfl) rv_I0) hp5)) (rv_eq rfl)) fun _ => ev_op (ev_countP W (evp_mv (ev_var rfl) ev_c hp5)) (ev_count W (ev_var rfl) hp5) (rv_eq rfl)) ?_) fun H6 e6 => ?_
    · rw [vint, vint, hi]
      have v1 : mv S ws.length n (-(0 - i)) = mv S ws.length n (id i) := by
        show mv S ws.length n (-(0 - i)) = mv S ws.length n i
        rw [show -(0 - i) = i by omega]
      have v2 : mv S ws.length n (id 0) = n := by
        show mv S ws.length n 0 = n
        unfold mv
        omega
      rw [v1, v2]
      simp
    · have e36 : Same H2 H6 := Ex.trans e3 (Ex.trans e4 (Ex.trans e5 e6))
      exact k H6 (S2.same e36) ((e1.trans e2).trans (Kp.of e36))
def spSpot (CW CE CP : Addr) : Sp := fun vs H Q _ => ∃ (st c e wk : Addr) (nm : Str) (ws : List Str) (S : Nat → Bool), vs = [.ref st, .ref e, .int (cnt S ws.length : Nat)] ∧ StAt H st c ∧ EdAt CW CE H e wk nm ws S ∧ WOk ws ∧
  ∀ q n x H', PlAt CW CE CP H' q e wk nm ws S n x → StAt H' st c → Kp st H H' → Q (.ref q) H'
abbrev s_spot : Stmt := top 37
theorem sc_spot : FnScope ["_law_state", "_law_made", "_law_size"] ["_law_state", "_law_made", "_law_size"] (defScope s_spot) := ⟨rfl, rfl, rfl, by decide +kernel, rfl, by decide +kernel, by decide +kernel⟩
theorem ok_spot {CW CE CP fT fI fO : Addr} {fdT fdI fdO : FuncData} (F : Fun K "_law_spot" "_law_spot" s_spot f fd) (D_take : DefOk P w K mg base 2 "_law_take" fT fdT ["_law_state", "_law_many"] spTake)
    (D_one : DefOk P w K mg base 3 "_law_one" fO fdO ["_law_state", "_law_things"] (spOneA K)) (K_Place : ClsOk P w K mg base 4 "Place" CP fI fdI ["self", "edition", "count"] (spPlInit CW CE CP)) : FnOk P w K mg base CX0 6 f fd ["_law_state", "_law_made", "_law_size"] (spSpot CW CE CP) := by
  refine F.ok sc_spot (fun vs H Q E h => ?_) (fun cdv A outer s H vs Q E hr h => ?_)
  · obtain ⟨st, c, e, wk, nm, ws, S, rfl, _⟩ := h
    rfl
  · obtain ⟨st, c, e, wk, nm, ws, S, rfl, S0, he, hw, k⟩ := h
    refine ⟨_, (pss_one (ps_ret (pe_mk K_Place (hr.mono (by decide)) (pa_cons (pv 1) (pa_cons (pe_d D_one (hr.mono (by decide)) (pa_cons (pv 0) (pa_cons (pe_lst (pa_cons pe_int (pa_cons (pv 2) (pa_cons (pe_d D_take (hr.mono (by decide)) (pa_cons (pv 0) (pa_cons (pe_op op_add (pv 2) pe_int) pa_nil))) (pa_cons (pe_d D_take (hr.mono (by decide)) (pa_cons (pv 0) (pa_cons (pe_op op_add (pv 2) pe_int) pa_nil))) pa_nil))))) pa_nil))) pa_nil))))), ?_⟩
    obtain ⟨xs0, hst⟩ := S0.neL
    have hc0 := idx_len ws.length S
    have hc1 := hw.l1
    have hc2 : cnt S ws.length ≤ 60 := by unfold cnt; omega
    generalize hm : cnt S ws.length = m at hc2
    refine ⟨_, rfl, _, rfl, _, rfl, _, rfl, _, rfl, ?_⟩
    refine ⟨_, _, rfl, rfl, ?_⟩
    refine ⟨st, c, _, rfl, S0, by omega, by omega, fun a H1 a0 a1 S1 e1 => ?_⟩
    refine ⟨_, rfl, _, rfl, _, _, rfl, rfl, ?_⟩
    refine ⟨st, c, _, rfl, S1, by omega, by omega, fun b H2 b0 b1 S2 e2 => ?_⟩
    refine ⟨by show 4 ≤ sizeLine; decide, fun l nl => ?_⟩
    have hls : l ≠ st := (S2.of_new nl).1
    refine ⟨st, c, l, _, rfl, S2.same (Same.upd' nl), hls, .inl (SqL.of upd_same), by simp, by simp, fun v H3 hv S3 e3 => ?_⟩
    have e03 : Kp st H H3 := ((e1.trans e2).trans (Kp.of (Same.upd' nl))).trans e3
    obtain ⟨n, hn, rfl⟩ : ∃ n : Nat, n ≤ m ∧ v = .int n := by
      simp only [List.mem_cons, List.not_mem_nil, or_false] at hv
      rcases hv with rfl | rfl | rfl | rfl
      · exact ⟨0, by omega, rfl⟩
      · exact ⟨m, by omega, rfl⟩
      · exact ⟨a.toNat, by omega, congrArg V.int (by omega)⟩
      · exact ⟨b.toNat, by omega, congrArg V.int (by omega)⟩
    have he3 := he.kp e03 hst
    exact mkPl he3 hw (cutN_at (by omega)) fun q H4 nq e4 hq => k q _ _ H4 hq (S3.same e4) (e03.trans (Kp.of e4))
end
end Lm

namespace Lm
open PySem L2 Evl
theorem wj' {σ : L2.St} {j : Nat} {x : V} (hl : j < σ.length) : ((wipe σ [j]).set j (some x))[j]? = some (some x) := wj hl
structure NumsL (H : Hp) (st : Addr) (N : Nat) (ds : List Addr) (Ss : List (Nat → Bool)) : Prop where
  len : ds.length = Ss.length
  at_ : ∀ (i : Nat) d S, ds[i]? = some d → Ss[i]? = some S → d ≠ st ∧ H d = some (.lst (nts (idx N S)))
structure EdsL (CW CE : Addr) (H : Hp) (ws : List Str) (es : List Addr) (Ss : List (Nat → Bool)) : Prop where
  len : es.length = Ss.length
  at_ : ∀ (i : Nat) e S, es[i]? = some e → Ss[i]? = some S → ∃ wk, EdAt CW CE H e wk "a" ws S
def PlsL (CW CE CP : Addr) (H : Hp) (ws : List Str) (ps : List Addr) : Prop := ∀ p ∈ ps, ∃ e wk S n x, PlAt CW CE CP H p e wk "a" ws S n x
theorem NumsL.kp {H H' : Hp} {st : Addr} {N : Nat} {ds : List Addr} {Ss : List (Nat → Bool)} (h : NumsL H st N ds Ss) (k : Kp st H H') : NumsL H' st N ds Ss :=
  ⟨h.len, fun i d S a b => let ⟨c, e⟩ := h.at_ i d S a b; ⟨c, k _ _ c e⟩⟩
theorem EdsL.kp {CW CE st : Addr} {H H' : Hp} {ws : List Str} {es : List Addr} {Ss : List (Nat → Bool)} {xs : List V} (h : EdsL CW CE H ws es Ss) (k : Kp st H H') (hs : H st = some (.lst xs)) : EdsL CW CE H' ws es Ss :=
  ⟨h.len, fun i d S a b => let ⟨wk, e⟩ := h.at_ i d S a b; ⟨wk, e.kp k hs⟩⟩
theorem EdsL.same {CW CE : Addr} {H H' : Hp} {ws : List Str} {es : List Addr} {Ss : List (Nat → Bool)} (h : EdsL CW CE H ws es Ss) (k : Same H H') : EdsL CW CE H' ws es Ss :=
  ⟨h.len, fun i d S a b => let ⟨wk, e⟩ := h.at_ i d S a b; ⟨wk, e.same k⟩⟩
theorem PlsL.kp {CW CE CP st : Addr} {H H' : Hp} {ws : List Str} {ps : List Addr} {xs : List V} (h : PlsL CW CE CP H ws ps) (k : Kp st H H') (hs : H st = some (.lst xs)) : PlsL CW CE CP H' ws ps := fun p hp => let ⟨e, wk, S, n, x, q⟩ := h p hp; ⟨e, wk, S, n, x, q.kp k hs⟩
theorem app_at {α β : Type} {l : List α} {m : List β} {a : α} {b : β} {P : α → β → Prop} (hl : l.length = m.length) (h : ∀ (i : Nat) x y, l[i]? = some x → m[i]? = some y → P x y) (hn : P a b) : ∀ (i : Nat) x y, (l ++ [a])[i]? = some x → (m ++ [b])[i]? = some y → P x y := by
  intro i x y hx hy
  rcases Nat.lt_or_ge i l.length with hi | hi
  · rw [List.getElem?_append_left hi] at hx
    rw [List.getElem?_append_left (by omega)] at hy
    exact h i x y hx hy
  · rw [List.getElem?_append_right hi] at hx
    rw [List.getElem?_append_right (by omega)] at hy
    cases e : i - l.length with
    | zero =>
      rw [e] at hx
      rw [show i - m.length = 0 by omega] at hy
      cases hx
      cases hy
      exact hn
    | succ n => rw [e] at hx; simp at hx
section
variable {CW CE CP : Addr} {K : PySem.W.Frag} {σ : L2.St} {H : Hp} {ws : List Str} {st c r wk tw : Addr}
/-- the numbers -/
theorem dues_ok (s1 : σ[1]? = some (some (.ref st))) (s3 : σ[3]? = some (some (.ref r))) (sl : 13 < σ.length) (S0 : StAt H st c) (hrs : r ≠ st) (hr : H r = some (.lst (ws.map V.str))) (hw : ws.length ≤ 60) (Q : VK)
    (k : ∀ p ds Ss H', H p = none → p ≠ st → H' p = some (.lst (refs ds)) → 3 ≤ ds.length → ds.length ≤ 8 → NumsL H' st ws.length ds Ss → StAt H' st c → Kp st H H' → Q (.ref p) H') : (tLc (iRng1 (tCons (tOp (rI0 fun i j => .int (i + j)) (tC (.int 3)) (tCall spTake [] E0 (tCons (tVar 1) (tCons (tC (.int 5)) tNil)))) tNil)) (gName 13) tYes (tCall spKept [] E0 (tCons (tVar 1) (tCons (tCB (Evl.rLenS K) (tCons (tVar 3) tNil)) tNil))) [13]) σ H Q := by
  refine ⟨_, s1, st, c, 5, rfl, S0, by decide, by decide, fun d H1 d0 d1 S1 e1 => ⟨_, _, rfl, rfl, ?_⟩⟩
  refine ⟨_, rfl, by omega, by omega, fun D nD => ?_⟩
  have nDH : H D = none := e1.free (S1.of_new nD).1 nD
  have hDs := (S1.of_new nD).1
  have hDc := (S1.of_new nD).2
  refine lc_range (lo := 0) (n := ((3 : Int) + d).toNat) (fun i H' => StAt H' st c ∧ Kp st H H' ∧ ∃ ds Ss, ds.length = i ∧ H' D = some (.lst (refs ds)) ∧ NumsL H' st ws.length ds Ss) ⟨S1.same (Same.upd' nD), Kp.mut e1 nDH, [], [], rfl, upd_same, rfl, fun i d S h _ => by simp at h⟩ ?_ ?_
  · rintro i H' hi ⟨S', e, ds, Ss, hds, hD, hN⟩
    refine ⟨wipe1 σ 13 _, _, wv (by decide) s1, _, wv (by decide) s3, r, _, rfl, .inl (SqL.of (e _ _ hrs hr)), st, c, ws.length, by rw [List.length_map]; rfl, S', hw, fun p A H4 np S4 e4 h4 => ?_⟩
    have hps := (S'.of_new np).1
    have hDp : D ≠ p := ne_of_none hD np
    have hD4 := e4 _ _ hDs hD
    refine ⟨_, hD4, small1000 (by rw [refs_len]; omega), S4.mut hDs hDc, Kp.mut (e.trans e4) nDH, ds ++ [p], Ss ++ [A], by simp [hds], by rw [upd_same]; simp [refs], by simp [hN.len], ?_⟩
    have hN4 := hN.kp e4
    refine app_at (P := fun d S => d ≠ st ∧ (upd H4 D (.lst (refs ds ++ [.ref p]))) d = some (.lst (nts (idx ws.length S)))) hN.len (fun i x y hx hy => ?_) ⟨hps, by rw [upd_ne hDp.symm]; exact h4⟩
    obtain ⟨q1, q2⟩ := hN4.at_ i x y hx hy
    refine ⟨q1, ?_⟩
    rw [upd_ne ?_]
    · exact q2
    · intro z
      rw [z, hD4] at q2
      have q3 := congrArg List.length (HO.lst.inj (Option.some.inj q2))
      have q4 := HO.lst.inj (Option.some.inj q2)
      cases ds with
      | nil => simp at hx
      | cons d0 dr =>
        cases hl : idx ws.length y with
        | nil => rw [hl] at q4; simp [refs, nts] at q4
        | cons n0 nr => rw [hl] at q4; simp [refs, nts] at q4
  · rintro H' ⟨S', e, ds, Ss, hds, hD, hN⟩
    exact k D ds Ss H' nDH hDs hD (by omega) (by omega) hN S' e
/-- the editions -/
theorem made_ok {m : Addr} {ds : List Addr} {Ss : List (Nat → Bool)} (s1 : σ[1]? = some (some (.ref st))) (s3 : σ[3]? = some (some (.ref r))) (s4 : σ[4]? = some (some (.ref wk))) (s5 : σ[5]? = some (some (.ref tw))) (s6 : σ[6]? = some (some (.ref m))) (sl : 14 < σ.length)
    (S0 : StAt H st c) (hrs : r ≠ st) (hr : H r = some (.lst (ws.map V.str))) (hok : WOk ws) (hwk : WkAt CW H wk "a" ws) (htw : WkAt CW H tw "a" ws) (hms : m ≠ st) (hm : H m = some (.lst (refs ds))) (hl : ds.length ≤ 8) (hN : NumsL H st ws.length ds Ss) (Q : VK)
    (k : ∀ p es H', H p = none → p ≠ st → H' p = some (.lst (refs es)) → EdsL CW CE H' ws es Ss → StAt H' st c → Kp st H H' → Q (.ref p) H') : (tLc (iList K (tVar 6)) (gName 14) tYes (tCall (spEdn CW CE) [] E0 (tCons (tCall (spOneA K) [] E0 (tCons (tVar 1) (tCons (tLst (tCons (tVar 4) (tCons (tVar 5) tNil))) tNil))) (tCons (tVar 3) (tCons (tVar 14) tNil)))) [14]) σ H Q := by
  refine ⟨_, s6, m, rfl, ⟨_, SqL.of hm⟩, fun D nD => ?_⟩
  have hDs := (S0.of_new nD).1
  have hDc := (S0.of_new nD).2
  obtain ⟨xs0, hst⟩ := S0.neL
  refine lc_list (K := K) (a := m) (xs := refs ds) (fun i H' => StAt H' st c ∧ Kp st H H' ∧ ∃ es, es.length = i ∧ H' D = some (.lst (refs es)) ∧ ∀ (j : Nat) e S, es[j]? = some e → (Ss.take i)[j]? = some S → ∃ wk, EdAt CW CE H' e wk "a" ws S) ⟨S0.same (Same.upd' nD), Kp.of (Same.upd' nD), [], rfl, upd_same, fun j e S h _ => by simp at h⟩ (fun i H' _ p => SqL.of (p.2.1 _ _ hms hm)) ?_ ?_
  · rintro i x H' hx ⟨S', e, es, hes, hD, hE⟩
    obtain ⟨d, hd, rfl⟩ := refs_inv hx
    have hi : i < ds.length := (List.getElem?_eq_some_iff.mp hd).1
    obtain ⟨A, hA⟩ : ∃ A, Ss[i]? = some A := ⟨_, List.getElem?_eq_getElem (by rw [← hN.len]; exact hi)⟩
    obtain ⟨hds, hdn⟩ := hN.at_ i d A hd hA
    refine ⟨wipe1 σ 14 _, _, wv (by decide) s1, _, wv (by decide) s4, _, wv (by decide) s5, by show 2 ≤ sizeLine; decide, fun l nl => ?_⟩
    have hls := (S'.of_new nl).1
    refine ⟨st, c, l, _, rfl, S'.same (Same.upd' nl), hls, .inl (SqL.of upd_same), by simp, by simp, fun v H4 hv S4 e4 => ?_⟩
    have e04 : Kp st H H4 := (e.trans (Kp.of (Same.upd' nl))).trans e4
    have e14 : Kp st H' H4 := (Kp.of (Same.upd' nl)).trans e4
    obtain ⟨wv', hv', hwv⟩ : ∃ w', v = .ref w' ∧ WkAt CW H4 w' "a" ws := by
      simp only [List.mem_cons, List.not_mem_nil, or_false] at hv
      rcases hv with rfl | rfl
      · exact ⟨_, rfl, hwk.kp e04 hst⟩
      · exact ⟨_, rfl, htw.kp e04 hst⟩
    subst hv'
    refine ⟨_, wv (by decide) s3, _, wj sl, wv', r, d, "a", ws, A, rfl, hwv, hok, e04 _ _ hrs hr, e04 _ _ hds hdn, fun ed H5 ne e5 he => ?_⟩
    have hD5 := e5 _ _ (e14 _ _ hDs hD)
    have e05 := e04.trans (Kp.of e5)
    refine ⟨_, hD5, small1000 (by rw [refs_len]; omega), (S4.same e5).mut hDs hDc, Kp.mut e05 nD, es ++ [ed], by simp [hes], by rw [upd_same]; simp [refs], ?_⟩
    have nDe : ∀ {S : Nat → Bool} {a w' : Addr} {H6 : Hp}, H6 D = some (.lst (refs es)) → EdAt CW CE H6 a w' "a" ws S → EdAt CW CE (upd H6 D (.lst (refs es ++ [.ref ed]))) a w' "a" ws S := fun h q => q.kp (Kp.upd _ _ _) h
    rw [List.take_succ, hA]
    obtain ⟨xs1, hst1⟩ := S'.neL
    refine app_at (l := es) (m := Ss.take i) (P := fun e S => ∃ wk, EdAt CW CE (upd H5 D (.lst (refs es ++ [.ref ed]))) e wk "a" ws S) (by rw [List.length_take, hes, ← hN.len]; omega) (fun j x y hx hy => ?_) ⟨_, nDe hD5 he⟩
    obtain ⟨w', q⟩ := hE j x y hx hy
    exact ⟨w', nDe hD5 ((q.kp e14 hst1).same e5)⟩
  · rintro H' ⟨S', e, es, hes, hD, hE⟩
    rw [refs_len] at hes hE
    refine k D es H' nD hDs hD ⟨by rw [hes, hN.len], fun j x y hx hy => hE j x y hx ?_⟩ S' e
    rw [hN.len, List.take_length]
    exact hy
/-- the places -/
theorem spots_ok {m d : Addr} {es ds : List Addr} {Ss : List (Nat → Bool)} (s1 : σ[1]? = some (some (.ref st))) (s6 : σ[6]? = some (some (.ref d))) (s7 : σ[7]? = some (some (.ref m))) (sl : 13 < σ.length)
    (S0 : StAt H st c) (hok : WOk ws) (hds : d ≠ st) (hms : m ≠ st) (hd : H d = some (.lst (refs ds))) (hm : H m = some (.lst (refs es))) (h3 : 3 ≤ ds.length) (hN : NumsL H st ws.length ds Ss) (hE : EdsL CW CE H ws es Ss) (Q : VK)
    (k : ∀ p ps H', H p = none → p ≠ st → H' p = some (.lst (refs ps)) → ps.length = 3 → PlsL CW CE CP H' ws ps → StAt H' st c → Kp st H H' → Q (.ref p) H') : (tLc (iRng1 (tCons (tC (.int 3)) tNil)) (gName 13) tYes (tCall (spSpot CW CE CP) [] E0 (tCons (tVar 1) (tCons (tOp (rIxL K) (tVar 7) (tOp (rI (fun _ j => j ≠ 0) fun i j => .int (i.fmod j)) (tVar 13) (tC (.int 2)))) (tCons (tCB (Evl.rLenS K) (tCons (tOp (rIxL K) (tVar 6) (tOp (rI (fun _ j => j ≠ 0) fun i j => .int (i.fmod j)) (tVar 13) (tC (.int 2)))) tNil)) tNil)))) [13]) σ H Q := by
  refine ⟨_, rfl, by decide, by decide, fun D nD => ?_⟩
  have hDs := (S0.of_new nD).1
  have hDc := (S0.of_new nD).2
  obtain ⟨xs0, hst⟩ := S0.neL
  refine lc_range (lo := 0) (n := (3 : Int).toNat) (fun i H' => StAt H' st c ∧ Kp st H H' ∧ ∃ ps, ps.length = i ∧ H' D = some (.lst (refs ps)) ∧ PlsL CW CE CP H' ws ps) ⟨S0.same (Same.upd' nD), Kp.of (Same.upd' nD), [], rfl, upd_same, fun p h => nomatch h⟩ ?_ ?_
  · rintro i H' hi ⟨S', e, ps, hps, hD, hP⟩
    obtain ⟨j, hj, hj2⟩ : ∃ j : Nat, ((0 : Int) + (i : Int)).fmod 2 = (j : Int) ∧ j < 2 := ⟨i % 2, by rw [Int.fmod_eq_emod_of_nonneg _ (by decide)]; omega, by omega⟩
    obtain ⟨dj, hdj⟩ : ∃ dj, ds[j]? = some dj := ⟨_, List.getElem?_eq_getElem (by omega)⟩
    obtain ⟨A, hA⟩ : ∃ A, Ss[j]? = some A := ⟨_, List.getElem?_eq_getElem (by rw [← hN.len]; omega)⟩
    obtain ⟨ej, hej⟩ : ∃ ej, es[j]? = some ej := ⟨_, List.getElem?_eq_getElem (by rw [hE.len, ← hN.len]; omega)⟩
    obtain ⟨q1, q2⟩ := hN.at_ j dj A hdj hA
    obtain ⟨wk, q3⟩ := hE.at_ j ej A hej hA
    have atm : atI (refs es) (((0 : Int) + (i : Int)).fmod 2) = some (.ref ej) := by rw [hj]; exact atI_nat (refs_at hej)
    have atd : atI (refs ds) (((0 : Int) + (i : Int)).fmod 2) = some (.ref dj) := by rw [hj]; exact atI_nat (refs_at hdj)
    refine ⟨wipe1 σ 13 _, _, wv (by decide) s1, _, wv (by decide) s7, _, wj sl, _, _, rfl, rfl, by show (2 : Int) ≠ 0; decide, m, _, _, _, rfl, rfl, SqL.of (e _ _ hms hm), atm, ?_⟩
    refine ⟨_, wv (by decide) s6, _, wj sl, _, _, rfl, rfl, by show (2 : Int) ≠ 0; decide, d, _, _, _, rfl, rfl, SqL.of (e _ _ hds hd), atd, ?_⟩
    refine ⟨dj, _, rfl, .inl (SqL.of (e _ _ q1 q2)), st, c, ej, wk, "a", ws, A, by rw [nts_len]; rfl, S', q3.kp e hst, hok, fun q n x H4 hq S4 e4 => ?_⟩
    have hD4 := e4 _ _ hDs hD
    obtain ⟨xs1, hst1⟩ := S'.neL
    have ku : Kp D H4 (upd H4 D (.lst (refs ps ++ [.ref q]))) := Kp.upd _ _ _
    refine ⟨_, hD4, small1000 (by rw [refs_len]; omega), S4.mut hDs hDc, Kp.mut (e.trans e4) nD, ps ++ [q], by simp [hps], by rw [upd_same]; simp [refs], ?_⟩
    intro p hp
    rcases List.mem_append.mp hp with hp | hp
    · obtain ⟨e', w', S, n', x', z⟩ := hP p hp
      exact ⟨e', w', S, n', x', (z.kp e4 hst1).kp ku hD4⟩
    · cases (List.mem_singleton.mp hp)
      exact ⟨_, _, _, _, _, hq.kp ku hD4⟩
  · rintro H' ⟨S', e, ps, hps, hD, hP⟩
    exact k D ps H' nD hDs hD hps hP S' e
end
end Lm

namespace Lm
open PySem L2 Evl
def spLaw (K : PySem.W.Frag) : Sp := fun vs H Q _ => ∃ (a : Addr) (ns : List Int), vs = [.ref a] ∧ SqL K H a (ns.map V.int) ∧ ns.length ≤ 63 ∧ ∀ H', Q (.bl true) H'
theorem sq_go {te : TE} {g : TG} {tz : TS} {D : Ends} {σ : L2.St} {H : Hp} (h : te σ H fun v H1 => g v σ H1 (tz D)) : tSeq (tAsg te g) tz D σ H := h
theorem kit_int {K : PySem.W.Frag} {C : Addr} (hd : PySem.W.hasDictIn K C = true) (ht : PySem.W.typeIn K (.ref C) = some (.type "type")) (hs : PySem.W.subIn K (.type "int") (.ref C) = some false) : PySem.W.kitOne K (.type "int") (.ref C) = some false := by
  obtain ⟨cd, hc, _⟩ := PySem.W.any_some hd
  have hne : ¬ ((Value.type "int" == Value.ref C) = true) := fun q => by cases beq_iff_eq.mp q
  unfold PySem.W.kitOne PySem.W.kitCls
  rw [if_neg hne]
  dsimp only
  rw [hc, ht, if_pos (by simp)]
  exact hs
theorem nextI {D : Ends} {σ : L2.St} {H : Hp} (h : D.nx σ H) : tNext D σ H := h
theorem len3 {α : Type} {l : List α} (h : l.length = 3) : ∃ a b c, l = [a, b, c] := by
  match l, h with
  | [a, b, c], _ => exact ⟨a, b, c, rfl⟩
section
variable {P : Program} {w : World} {K : PySem.W.Frag} {mg : Str → Option Value} {base : Heap} {f : Addr} {fd : FuncData}
abbrev s_law : Stmt := top 41
theorem sc_law : FnScope ["_law_script", "_law_state", "_law_turn", "_law_rows", "_law_base_here", "_law_twin", "_law_dues", "_law_made", "_law_x", "_law_y", "_law_z", "_law_one_here", "_law_other", "_law_k", "_law_due", "_law_p"] ["_law_script"] (defScope s_law) := ⟨rfl, rfl, rfl, by decide +kernel, rfl, by decide +kernel, by decide +kernel⟩
theorem ok_law {CW CE CP f1 f2 f3 f4 f5 f6 f7 f8 f9 fA g1 g2 g3 g4 : Addr} {d1 d2 d3 d4 d5 d6 d7 d8 d9 b1 b2 b3 b4 : FuncData} (F : Fun K "law" "law" s_law f fd) (T : BltP K mg CP fA) (W : PlTxt K CP)
    (D_fresh : DefOk P w K mg base 1 "_law_fresh" f1 d1 ["_law_script"] (spFresh K)) (D_take : DefOk P w K mg base 2 "_law_take" f2 d2 ["_law_state", "_law_many"] spTake) (D_one : DefOk P w K mg base 3 "_law_one" f3 d3 ["_law_state", "_law_things"] (spOneA K))
    (D_base : DefOk P w K mg base 4 "_law_base" f4 d4 ["_law_state", "_law_many"] (spBase CW)) (D_kept : DefOk P w K mg base 4 "_law_kept" f5 d5 ["_law_state", "_law_many"] spKept) (D_edition : DefOk P w K mg base 6 "_law_edition" f6 d6 ["_law_base_here", "_law_rows", "_law_numbers"] (spEdn CW CE))
    (D_spot : DefOk P w K mg base 6 "_law_spot" f7 d7 ["_law_state", "_law_made", "_law_size"] (spSpot CW CE CP)) (D_chain_right : DefOk P w K mg base 9 "_law_chain_right" f8 d8 ["_law_x", "_law_y", "_law_others"] (spChain CW CE CP)) (D_moves_right : DefOk P w K mg base 9 "_law_moves_right" f9 d9 ["_law_state", "_law_x"] (spMovesR CW CE CP))
    (D_seen_right : DefOk P w K mg base 8 "_law_seen_right" g1 b1 ["_law_x", "_law_made"] (spSeenR CW CE CP)) (M_Place_seen : MetOk P w K mg base 7 CP "seen" g2 b2 ["self", "edition"] (spSeen CW CE CP)) (M_Place_sub : MetOk P w K mg base 7 CP "__sub__" g3 b3 ["self", "other"] (spDiff CW CE CP))
    (M_Place_lt : MetOk P w K mg base 7 CP "__lt__" g4 b4 ["self", "other"] (spOrd CW CE CP (fun i j => decide (i < j)))) {g5 : Addr} {b5 : FuncData} (M_Place_eq : MetOk P w K mg base 7 CP "__eq__" g5 b5 ["self", "other"] (spOrd CW CE CP fun i j => decide (i = j))) : FnOk P w K mg base CX0 10 f fd ["_law_script"] (spLaw K) := by
  refine F.ok sc_law (fun vs H Q E h => ?_) (fun cdv A outer s H vs Q E hr h => ?_)
  · obtain ⟨a, ns, rfl, _⟩ := h
    rfl
  · obtain ⟨a, ns, rfl, hS, hl, k⟩ := h
    refine ⟨_, (pss_cons (ps_set (i := 1) sc_law.nd rfl (by first | exact Or.inl rfl | exact Or.inr rfl) (pe_d D_fresh (hr.mono (by decide)) (pa_cons (pv 0) pa_nil)))
        (pss_cons (ps_for PassesOwn.never rfl (pi_range1 rfl T.b_range (pa_cons pe_int pa_nil)) (pg_name (i := 2) sc_law.nd rfl (by first | exact Or.inl rfl | exact Or.inr rfl)) (pss_cons (ps_asg (pe_d D_base (hr.mono (by decide)) (pa_cons (pv 1) (pa_cons (pe_d D_one (hr.mono (by decide)) (pa_cons (pv 1) (pa_cons (pe_tup (pa_cons pe_int (pa_cons pe_int (pa_cons pe_int (pa_cons pe_int (pa_cons pe_int (pa_cons pe_int pa_nil))))))) pa_nil))) pa_nil))) (pg_tup rfl (pgs_cons (pg_name (i := 3) sc_law.nd rfl (by first | exact Or.inl rfl | exact Or.inr rfl)) (pgs_cons (pg_name (i := 4) sc_law.nd rfl (by first | exact Or.inl rfl | exact Or.inr rfl)) (pgs_cons (pg_name (i := 5) sc_law.nd rfl (by first | exact Or.inl rfl | exact Or.inr rfl)) pgs_nil)))))
        (pss_cons (ps_set (i := 6) sc_law.nd rfl (by first | exact Or.inl rfl | exact Or.inr rfl) (pe_lc (own := [("_law_k", 13)]) (g := gName 13) (tt := tYes) (te := (tCall spKept [] E0 (tCons (tVar 1) (tCons (tCB (Evl.rLenS K) (tCons (tVar 3) tNil)) tNil)))) rfl sc_law.nd (pi_range1 rfl T.b_range (pa_cons (pe_op op_add pe_int (pe_d D_take (hr.mono (by decide)) (pa_cons (pv 1) (pa_cons pe_int pa_nil)))) pa_nil)) (blkOk_by (own := [("_law_k", 13)]) (by kernel_rfl)) (fun _ _ _ _ _ => (pg_name (i := 13) sc_law.nd rfl (by first | exact Or.inl rfl | exact Or.inr rfl))) (fun _ _ _ _ _ => pts_nil) (fun _ _ _ _ _ => by exact (pe_d D_kept (hr.mono (by decide)) (pa_cons (pv 1) (pa_cons (pe_callB call_len_seq (by rfl) T.b_len PySem.boot_len (pa_cons (pv 3) pa_nil)) pa_nil))))))
        (pss_cons (ps_set (i := 7) sc_law.nd rfl (by first | exact Or.inl rfl | exact Or.inr rfl) (pe_lc (own := [("_law_due", 14)]) (g := gName 14) (tt := tYes) (te := (tCall (spEdn CW CE) [] E0 (tCons (tCall (spOneA K) [] E0 (tCons (tVar 1) (tCons (tLst (tCons (tVar 4) (tCons (tVar 5) tNil))) tNil))) (tCons (tVar 3) (tCons (tVar 14) tNil))))) rfl sc_law.nd (pi_list (pv 6)) (blkOk_by (own := [("_law_due", 14)]) (by kernel_rfl)) (fun _ _ _ _ _ => (pg_name (i := 14) sc_law.nd rfl (by first | exact Or.inl rfl | exact Or.inr rfl))) (fun _ _ _ _ _ => pts_nil) (fun _ _ _ _ _ => by exact (pe_d D_edition (hr.mono (by decide)) (pa_cons (pe_d D_one (hr.mono (by decide)) (pa_cons (pv 1) (pa_cons (pe_lst (pa_cons (pv 4) (pa_cons (pv 5) pa_nil))) pa_nil))) (pa_cons (pv 3) (pa_cons (pv 14) pa_nil)))))))
        (pss_cons (ps_asg (pe_lc (own := [("_law_k", 13)]) (g := gName 13) (tt := tYes) (te := (tCall (spSpot CW CE CP) [] E0 (tCons (tVar 1) (tCons (tOp (rIxL K) (tVar 7) (tOp (rI (fun _ j => j ≠ 0) fun i j => .int (i.fmod j)) (tVar 13) (tC (.int 2)))) (tCons (tCB (Evl.rLenS K) (tCons (tOp (rIxL K) (tVar 6) (tOp (rI (fun _ j => j ≠ 0) fun i j => .int (i.fmod j)) (tVar 13) (tC (.int 2)))) tNil)) tNil))))) rfl sc_law.nd (pi_range1 rfl T.b_range (pa_cons pe_int pa_nil)) (blkOk_by (own := [("_law_k", 13)]) (by kernel_rfl)) (fun _ _ _ _ _ => (pg_name (i := 13) sc_law.nd rfl (by first | exact Or.inl rfl | exact Or.inr rfl))) (fun _ _ _ _ _ => pts_nil) (fun _ _ _ _ _ => by exact (pe_d D_spot (hr.mono (by decide)) (pa_cons (pv 1) (pa_cons (pe_ix ix_list (pv 7) (pe_op op_modN (pv 13) pe_int) (fun _ _ => rfl)) (pa_cons (pe_callB call_len_seq (by rfl) T.b_len PySem.boot_len (pa_cons (pe_ix ix_list (pv 6) (pe_op op_modN (pv 13) pe_int) (fun _ _ => rfl)) pa_nil)) pa_nil)))))) (pg_tupL rfl (pgs_cons (pg_name (i := 8) sc_law.nd rfl (by first | exact Or.inl rfl | exact Or.inr rfl)) (pgs_cons (pg_name (i := 9) sc_law.nd rfl (by first | exact Or.inl rfl | exact Or.inr rfl)) (pgs_cons (pg_name (i := 10) sc_law.nd rfl (by first | exact Or.inl rfl | exact Or.inr rfl)) pgs_nil)))))
        (pss_cons (ps_for PassesOwn.never rfl (pi_tup (pe_tup (pa_cons (pe_tup (pa_cons (pv 8) (pa_cons (pv 9) pa_nil))) (pa_cons (pe_tup (pa_cons (pv 9) (pa_cons (pv 10) pa_nil))) (pa_cons (pe_tup (pa_cons (pv 10) (pa_cons (pv 8) pa_nil))) (pa_cons (pe_tup (pa_cons (pv 9) (pa_cons (pv 8) pa_nil))) pa_nil)))))) (pg_tup rfl (pgs_cons (pg_name (i := 11) sc_law.nd rfl (by first | exact Or.inl rfl | exact Or.inr rfl)) (pgs_cons (pg_name (i := 12) sc_law.nd rfl (by first | exact Or.inl rfl | exact Or.inr rfl)) pgs_nil))) (pss_cons (ps_if (PW.pt (pw_or (pt_not (pt_val (pe_d D_chain_right (hr.mono (by decide)) (pa_cons (pv 11) (pa_cons (pv 12) (pa_cons (pe_slice sl_list (pv 7) (po_some pe_int) po_none) pa_nil)))))) (pw_or1 (pt_not (pt_val (pe_d D_moves_right (hr.mono (by decide)) (pa_cons (pv 1) (pa_cons (pv 11) pa_nil)))))))) (pss_one (ps_ret pe_bl)) pss_nil)
        (pss_one (ps_if (PW.pt (pw_or (pt_cmpR op_ne (pe_op op_add (pe_op (M_Place_sub.bin T.sf_Place (hr.mono (by decide))) (pv 11) (pv 12)) (pe_op (M_Place_sub.bin T.sf_Place (hr.mono (by decide))) (pv 12) (pv 11))) pe_int (nomark _)) (pw_or1 (pt_cmpR op_ne (pe_cmpR (M_Place_lt.lt (hr.mono (by decide))) (pv 11) (pv 12) (nomark _)) (pe_cmpR op_gt (pe_op (M_Place_sub.bin T.sf_Place (hr.mono (by decide))) (pv 12) (pv 11)) pe_int (nomark _)) (nomark _))))) (pss_one (ps_ret pe_bl)) pss_nil))))
        (pss_cons (ps_if (PW.pt (pw_or (pt_cmpR op_ne (pe_op op_add (pe_op (M_Place_sub.bin T.sf_Place (hr.mono (by decide))) (pv 8) (pv 9)) (pe_op (M_Place_sub.bin T.sf_Place (hr.mono (by decide))) (pv 9) (pv 10))) (pe_op (M_Place_sub.bin T.sf_Place (hr.mono (by decide))) (pv 8) (pv 10)) (nomark _)) (pw_or1 (pt_cmpR op_ne (pe_cmpR op_eq (pe_op (M_Place_sub.bin T.sf_Place (hr.mono (by decide))) (pv 8) (pv 9)) pe_int (nomark _)) (pe_cmpR (M_Place_eq.eq (hr.mono (by decide))) (pv 8) (pv 9) (nomark _)) (nomark _))))) (pss_one (ps_ret pe_bl)) pss_nil)
        (pss_one (ps_if (PW.pt (pw_or (pt_not (pt_val (pe_callB (cr_all rfl) (by rfl) T.b_all (by decide +kernel) (by exact (pa_cons (pe_lc (own := [("_law_p", 15)]) (g := gName 15) (tt := tYes) (te := (tCall (spSeenR CW CE CP) [] E0 (tCons (tVar 15) (tCons (tFld K (tVar 8) "edition") tNil)))) rfl sc_law.nd (pi_list (pe_lst (pa_cons (pv 8) (pa_cons (pv 9) (pa_cons (pv 10) pa_nil))))) (blkOk_by (own := [("_law_p", 15)]) (by kernel_rfl)) (fun _ _ _ _ _ => (pg_name (i := 15) sc_law.nd rfl (by first | exact Or.inl rfl | exact Or.inr rfl))) (fun _ _ _ _ _ => pts_nil) (fun _ _ _ _ _ => by exact (pe_d D_seen_right (hr.mono (by decide)) (pa_cons (pv 15) (pa_cons (pe_fld (pv 8) rfl) pa_nil))))) pa_nil))))) (pw_or1 (pt_not (pt_cmpR (M_Place_eq.eq (hr.mono (by decide))) (pe_m M_Place_seen (hr.mono (by decide)) (pv 8) (pa_cons (pe_fld (pv 8) rfl) pa_nil)) (pv 8) (nomark _)))))) (pss_one (ps_ret pe_bl)) pss_nil)))))))))
        (pss_one (ps_ret pe_bl)))), ?_⟩
    refine ⟨_, rfl, a, ns, rfl, hS, hl, fun st c H0 nst nc e0 S0 => ?_⟩
    refine ⟨_, rfl, by decide, by decide, for_range (lo := 0) (n := 5) (fun i σ' H' => ∃ v2 v3 v4 v5 v6 v7 v8 v9 v10 v11 v12 v13 v14 v15 : Option V, σ' = [some (.ref a), some (.ref st), v2, v3, v4, v5, v6, v7, v8, v9, v10, v11, v12, v13, v14, v15] ∧ StAt H' st c)
      ⟨none, none, none, none, none, none, none, none, none, none, none, none, none, none, rfl, S0⟩ ?_ ?_⟩
    · rintro i σ' H hi ⟨v2, v3, v4, v5, v6, v7, v8, v9, v10, v11, v12, v13, v14, v15, rfl, S⟩
      refine ⟨_, rfl, _, rfl, by show 6 ≤ sizeLine; decide, fun t1 nt1 => ?_⟩
      have S1 := S.same (Same.upd' nt1 (o := .tup [V.int 1, V.int 2, V.int 4, V.int 7, V.int 12, V.int 30]))
      refine ⟨st, c, t1, _, rfl, S1, (S.of_new nt1).1, .inr (SqT.of upd_same), by show 0 < 6; decide, by show 6 < _; decide, fun v H2 hv S2 e2 => ?_⟩
      obtain ⟨m, rfl, m0, m1⟩ : ∃ m : Nat, v = .int m ∧ 1 ≤ m ∧ m ≤ 60 := by
        simp only [List.mem_cons, List.not_mem_nil, or_false] at hv
        rcases hv with rfl | rfl | rfl | rfl | rfl | rfl
        · exact ⟨1, rfl, by decide, by decide⟩
        · exact ⟨2, rfl, by decide, by decide⟩
        · exact ⟨4, rfl, by decide, by decide⟩
        · exact ⟨7, rfl, by decide, by decide⟩
        · exact ⟨12, rfl, by decide, by decide⟩
        · exact ⟨30, rfl, by decide, by decide⟩
      refine ⟨st, c, m, rfl, S2, m0, m1, fun tb r wk tw ws H3 hok hlen ntb nr htb hrr hwk htw S3 e3 => ?_⟩
      refine ⟨tb, _, rfl, SqT.of htb, rfl, _, _, rfl, _, _, rfl, _, _, rfl, rfl, ?_⟩
      have hrs : r ≠ st := (S2.of_new nr).1
      clear htb ntb nr e3 e2 S1 nt1 S
      refine sq_go (dues_ok (K := K) rfl rfl (by show 13 < 16; decide) S3 hrs hrr hok.l1 _ fun dl ds Ss H4 nd nds hd d3 d8 hN S4 e4 => ?_)
      dsimp only [gName]
      obtain ⟨xs3, hst3⟩ := S3.neL
      refine sq_go (made_ok (K := K) rfl rfl rfl rfl rfl (by show 14 < 16; decide) S4 hrs (e4 _ _ hrs hrr) hok (hwk.kp e4 hst3) (htw.kp e4 hst3) nds hd d8 hN _ fun ml es H5 nm nms hm hE S5 e5 => ?_)
      dsimp only [gName]
      refine sq_go (spots_ok (CP := CP) (K := K) rfl rfl rfl (by show 13 < 16; decide) S5 hok nds nms (e5 _ _ nds hd) hm d3 (hN.kp e5) hE _ fun pl ps H6 np nps hp p3 hP S6 e6 => ?_)
      obtain ⟨xs5, hst5⟩ := S5.neL
      have hE6 := hE.kp e6 hst5
      have hm6 := e6 _ _ nms hm
      obtain ⟨x, y, z, rfl⟩ := len3 p3
      refine ⟨pl, _, rfl, SqL.of hp, rfl, _, _, rfl, _, _, rfl, _, _, rfl, rfl, ?_⟩
      clear hst5 hp np e6 hE hm nm e5 hN hd nd e4 hst3 S5 S4 S3 hwk htw hrr S2
      -- the editions behind the second one
      obtain ⟨es', hcut, hes'⟩ : ∃ es' : List Addr, cutV (refs es) (some 2) none = refs es' ∧ ∀ q ∈ es', q ∈ es := by
        refine ⟨(es.drop (HT.sIx (refs es).length 0 (some 2))).take (HT.sIx (refs es).length (refs es).length none - HT.sIx (refs es).length 0 (some 2)), ?_, fun q h => List.mem_of_mem_drop (List.mem_of_mem_take h)⟩
        unfold cutV refs
        rw [List.map_take, List.map_drop]
      have hEd : ∀ q ∈ es', ∃ w' T', EdAt CW CE H6 q w' "a" ws T' := fun q hq => by
        obtain ⟨j, hj, e⟩ := List.mem_iff_getElem.mp (hes' q hq)
        obtain ⟨S', hS'⟩ : ∃ S', Ss[j]? = some S' := ⟨_, List.getElem?_eq_getElem (by rw [← hE6.len]; exact hj)⟩
        obtain ⟨w', h'⟩ := hE6.at_ j q S' (by rw [List.getElem?_eq_getElem hj, e]) hS'
        exact ⟨w', S', h'⟩
      refine ⟨_, rfl, _, rfl, by show 2 ≤ sizeLine; decide, fun t1 n1 => ?_⟩
      refine ⟨_, rfl, _, rfl, by show 2 ≤ sizeLine; decide, fun t2 n2 => ?_⟩
      refine ⟨_, rfl, _, rfl, by show 2 ≤ sizeLine; decide, fun t3 n3 => ?_⟩
      refine ⟨_, rfl, _, rfl, by show 2 ≤ sizeLine; decide, fun t4 n4 => ?_⟩
      refine ⟨by show 4 ≤ sizeLine; decide, fun t5 n5 => ?_⟩
      generalize hA : upd H6 t1 _ = HA at n2 n3 n4 n5
      generalize hB : upd HA t2 _ = HB at n3 n4 n5
      generalize hC : upd HB t3 _ = HC at n4 n5
      generalize hD : upd HC t4 _ = HD at n5
      generalize hF : upd HD t5 _ = HF
      have sA : Same H6 HA := by rw [← hA]; exact Same.upd' n1
      have sB : Same HA HB := by rw [← hB]; exact Same.upd' n2
      have sC : Same HB HC := by rw [← hC]; exact Same.upd' n3
      have sD : Same HC HD := by rw [← hD]; exact Same.upd' n4
      have sF : Same HD HF := by rw [← hF]; exact Same.upd' n5
      have a1 : HF t1 = some (.tup [.ref x, .ref y]) := Same.trans sB (Same.trans sC (Same.trans sD sF)) _ _ (by rw [← hA]; exact upd_same)
      have a2 : HF t2 = some (.tup [.ref y, .ref z]) := Same.trans sC (Same.trans sD sF) _ _ (by rw [← hB]; exact upd_same)
      have a3 : HF t3 = some (.tup [.ref z, .ref x]) := Same.trans sD sF _ _ (by rw [← hC]; exact upd_same)
      have a4 : HF t4 = some (.tup [.ref y, .ref x]) := sF _ _ (by rw [← hD]; exact upd_same)
      have a5 : HF t5 = some (.tup [.ref t1, .ref t2, .ref t3, .ref t4]) := by rw [← hF]; exact upd_same
      have s6 : Same H6 HF := Same.trans sA (Same.trans sB (Same.trans sC (Same.trans sD sF)))
      have SF := S6.same s6
      obtain ⟨xsF, hstF⟩ := SF.neL
      have hmF := s6 _ _ hm6
      have hPF : PlsL CW CE CP HF ws [x, y, z] := fun p hp => let ⟨e, w', S', n, q, h⟩ := hP p hp; ⟨e, w', S', n, q, h.same s6⟩
      have hEF : ∀ q ∈ es', ∃ w' T', EdAt CW CE HF q w' "a" ws T' := fun q hq => let ⟨w', T', h⟩ := hEd q hq; ⟨w', T', h.same s6⟩
      have hIt : ∀ (j : Nat) v, [V.ref t1, V.ref t2, V.ref t3, V.ref t4][j]? = some v → ∃ t p q, v = .ref t ∧ HF t = some (.tup [.ref p, .ref q]) ∧ p ∈ [x, y, z] ∧ q ∈ [x, y, z] := by
        intro j v hv
        match j, hv with
        | 0, hv => cases hv; exact ⟨_, _, _, rfl, a1, by simp, by simp⟩
        | 1, hv => cases hv; exact ⟨_, _, _, rfl, a2, by simp, by simp⟩
        | 2, hv => cases hv; exact ⟨_, _, _, rfl, a3, by simp, by simp⟩
        | 3, hv => cases hv; exact ⟨_, _, _, rfl, a4, by simp, by simp⟩
        | j + 4, hv => simp at hv
      have t5s : t5 ≠ st := ne_of a5 hstF (by intro z; cases z)
      clear hA hB hC hD hF sA sB sC sD sF n1 n2 n3 n4 n5 s6 a1 a2 a3 a4 S6 hEd hm6 hE6 hP p3
      refine ⟨t5, rfl, ⟨_, SqT.of a5⟩, for_tup (K := K) (a := t5) (xs := [V.ref t1, V.ref t2, V.ref t3, V.ref t4]) (fun _ σ' H' => ∃ u11 u12 : Option V, σ' = [some (.ref a), some (.ref st), some (.int ((0 : Int) + (i : Int))), some (.ref r), some (.ref wk), some (.ref tw), some (.ref dl), some (.ref ml), some (.ref x), some (.ref y), some (.ref z), u11, u12, v13, v14, v15] ∧ StAt H' st c ∧ Kp st HF H')
        ⟨_, _, rfl, SF, Kp.refl _ _⟩ (fun _ σ' H' _ ⟨_, _, _, _, e⟩ => SqT.of (e _ _ t5s a5)) ?_ ?_⟩
      · rintro j v σ' H' hv ⟨u11, u12, rfl, S', e⟩
        obtain ⟨t, p, q, rfl, ht, hp, hq⟩ := hIt j v hv
        obtain ⟨ep, wp, Sp, np, xp, pp⟩ := hPF p hp
        obtain ⟨eq, wq, Sq, nq, xq, qq⟩ := hPF q hq
        have pp := pp.kp e hstF
        have qq := qq.kp e hstF
        refine ⟨t, _, rfl, SqT.of (e _ _ (ne_of ht hstF (by intro z; cases z)) ht), rfl, _, _, rfl, _, _, rfl, rfl, ?_⟩
        refine ⟨_, rfl, _, rfl, _, rfl, _, rfl, ml, _, rfl, SqL.of (e _ _ nms hmF), fun l' nl' => ?_⟩
        rw [hcut]
        have sl := Same.upd' nl' (o := .lst (refs es'))
        refine ⟨p, ep, wp, q, eq, wq, l', "a", ws, Sp, Sq, np, xp, nq, xq, es', rfl, pp.same sl, qq.same sl, ⟨upd_same, fun b hb => ?_⟩, fun H2 s2 => ⟨true, rfl, ?_⟩⟩
        · obtain ⟨w', T', h'⟩ := hEF b hb
          exact ⟨w', T', (h'.kp e hstF).same sl⟩
        have s12 := Same.trans sl s2
        obtain ⟨xs', hst'⟩ := S'.neL
        refine ⟨_, rfl, _, rfl, st, c, p, ep, wp, "a", ws, Sp, np, xp, rfl, S'.same s12, pp.same s12, fun H3 S3 e3 => ⟨true, rfl, ?_⟩⟩
        have e13 : Kp st H' H3 := (Kp.of s12).trans e3
        have pp3 := pp.kp e13 hst'
        have qq3 := qq.kp e13 hst'
        change (if (!true) = true then _ else _)
        rw [if_neg (by decide)]
        refine nextI ?_
        dsimp only
        refine s_when (b := false) (et_is (et_or (et_test (ev_op (ev_op (ev_diff (ev_var rfl) (ev_var rfl) pp3 qq3) (ev_diff (ev_var rfl) (ev_var rfl) qq3 pp3) rv_I0) ev_c (rv_ne rfl))) fun _ => et_test (ev_op (ev_ord (ev_var rfl) (ev_var rfl) pp3 qq3) (ev_op (ev_diff (ev_var rfl) (ev_var rfl) qq3 pp3) ev_c rv_I0) (rv_ne rfl))) ?_) (fun z => nomatch z) fun _ H4 e4 => ⟨_, _, rfl, S3.same e4, e.trans (e13.trans (Kp.of e4))⟩
        rw [vint, vbl]
        rw [decide_eq_true (show (xp : Int) - xq + (xq - xp) = 0 by omega)]
        have : decide ((xp : Int) < xq) = decide ((0 : Int) < xq - xp) := decide_eq_decide.mpr (by omega)
        rw [this]
        simp
      · rintro σ' H' ⟨u11, u12, rfl, S', e⟩
        obtain ⟨ex, wx, Sx, nx, cx, px⟩ := hPF x (by simp)
        obtain ⟨ey, wy, Sy, ny, cy, py⟩ := hPF y (by simp)
        obtain ⟨ez, wz, Sz, nz, cz, pz⟩ := hPF z (by simp)
        have px := px.kp e hstF
        have py := py.kp e hstF
        have pz := pz.kp e hstF
        refine q_when (b := false) (et_is (et_or (et_test (ev_op (ev_op (ev_diff (ev_var rfl) (ev_var rfl) px py) (ev_diff (ev_var rfl) (ev_var rfl) py pz) rv_I0) (ev_diff (ev_var rfl) (ev_var rfl) px pz) (rv_ne rfl))) fun _ => et_test (ev_op (ev_op (ev_diff (ev_var rfl) (ev_var rfl) px py) ev_c (rv_eq rfl)) (ev_ord (ev_var rfl) (ev_var rfl) px py) (rv_ne rfl))) ?_) (fun z => nomatch z) fun _ H1 e1 => ?_
        · rw [vint, vint, vbl]
          rw [decide_eq_true (show (cx : Int) - cy + (cy - cz) = cx - cz by omega)]
          have : decide ((cx : Int) - cy = 0) = decide ((cx : Int) = cy) := decide_eq_decide.mpr (by omega)
          rw [this]
          simp
        have px1 := px.same e1
        have py1 := py.same e1
        have pz1 := pz.same e1
        have allT : Ev (tCB (rAll K) (tCons (tLc (iList K (tLst (tCons (tVar 8) (tCons (tVar 9) (tCons (tVar 10) tNil))))) (gName 15) tYes (tCall (spSeenR CW CE CP) [] E0 (tCons (tVar 15) (tCons (tFld K (tVar 8) "edition") tNil))) [15]) tNil)) [some (.ref a), some (.ref st), some (.int ((0 : Int) + (i : Int))), some (.ref r), some (.ref wk), some (.ref tw), some (.ref dl), some (.ref ml), some (.ref x), some (.ref y), some (.ref z), u11, u12, v13, v14, v15] H1 (.bl true) := by
          have h := el_lcNL (K := K) (t := tYes) (te := (tCall (spSeenR CW CE CP) [] E0 (tCons (tVar 15) (tCons (tFld K (tVar 8) "edition") tNil)))) (vs := [15]) (j := 15) (σ := [some (.ref a), some (.ref st), some (.int ((0 : Int) + (i : Int))), some (.ref r), some (.ref wk), some (.ref tw), some (.ref dl), some (.ref ml), some (.ref x), some (.ref y), some (.ref z), u11, u12, v13, v14, v15]) (H := H1) (xs := [V.ref x, V.ref y, V.ref z]) (fun _ => true) (fun _ => .bl true)
            (el_lst (ea_cons (ev_var (i := 8) rfl) (ea_cons (ev_var (i := 9) rfl) (ea_cons (ev_var (i := 10) rfl) ea_nil))) (by show 3 ≤ 100000; decide)) (by show 3 ≤ 40000; decide) (fun v => wipe1 _ 15 v) (fun _ _ _ _ _ => et_yes) (fun j v H2 e2 hv _ => ?_)
          · exact ev_all (bs := [true, true, true]) h
          · have px2 := px1.same e2
            have hx : ∃ p' e' w' S' n' c', v = .ref p' ∧ PlAt CW CE CP H2 p' e' w' "a" ws S' n' c' := by
              match j, hv with
              | 0, hv => cases hv; exact ⟨_, _, _, _, _, _, rfl, px2⟩
              | 1, hv => cases hv; exact ⟨_, _, _, _, _, _, rfl, py1.same e2⟩
              | 2, hv => cases hv; exact ⟨_, _, _, _, _, _, rfl, pz1.same e2⟩
              | j + 3, hv => simp at hv
            obtain ⟨p', e', w', S', n', c', rfl, hp'⟩ := hx
            exact ev_call (ea_cons (ev_var rfl) (ea_cons (ev_edition W (ev_var rfl) px2) ea_nil)) (sv_seenR hp' px2.ed)
        refine s_when (b := false) (et_is (et_or (et_not (et_B allT)) fun _ => et_not (et_test (ev_ordP (evp_seen (ev_var rfl) (ev_edition W (ev_var rfl) px1) px1 px1.ed) (ev_var rfl) px1))) ?_) (fun z => nomatch z) fun _ H2 e2 => ⟨_, _, _, _, _, _, _, _, _, _, _, _, _, _, rfl, (S'.same e1).same e2⟩
        rw [decide_eq_true (show ((ker Sx cx : Nat) : Int) = cx by
          have h1 := cuts_at Sx px.le
          rw [(cnt_cuts px.at_).2, px.at_] at h1
          have := Option.some.inj h1
          omega)]
        rfl
    · rintro σ' H ⟨v2, v3, v4, v5, v6, v7, v8, v9, v10, v11, v12, v13, v14, v15, rfl, S⟩
      exact k H
end
end Lm

namespace Lm
open PySem L2
theorem all_mk {l : PySem.W.OpenLaw} {w : World} {K : PySem.W.Frag} {h : Heap} {mg : Str → Option Value} {fa C_Work C_Edition C_Place p_cut f_fresh f_fill f_take f_one f_allw f_somew f_kept f_isnum f_upto f_isrow f_isword f_wkinit f_wklen f_wkin f_wkend f_wkeq f_cuts f_counts f_edinit f_edlen f_rcount f_rcut f_cutb f_countat f_kernel f_onew f_plinit f_plcut f_plseen f_plmoved f_pladd f_plradd f_plsub f_rsize f_plfdiv f_plmod f_pllt f_plle f_plgt f_plge f_pleq f_base f_edn f_spot f_seenr f_movesr f_chainr f_law : Addr} (X : K.In h) (G : h.Ns mainGlobals mg) (hfa : mg "law" = some (.ref fa))
    {od_fresh an_fresh od_fill an_fill od_take an_take od_one an_one od_allw an_allw od_somew an_somew od_kept an_kept od_isnum an_isnum od_upto an_upto od_isrow an_isrow od_isword an_isword od_wkinit an_wkinit od_wklen an_wklen od_wkin an_wkin od_wkend an_wkend od_wkeq an_wkeq od_cuts an_cuts od_counts an_counts od_edinit an_edinit od_edlen an_edlen od_rcount an_rcount od_rcut an_rcut od_cutb an_cutb od_countat an_countat od_kernel an_kernel od_onew an_onew od_plinit an_plinit od_plcut an_plcut od_plseen an_plseen od_plmoved an_plmoved od_pladd an_pladd od_plradd an_plradd od_plsub an_plsub od_rsize an_rsize od_plfdiv an_plfdiv od_plmod an_plmod od_pllt an_pllt od_plle an_plle od_plgt an_plgt od_plge an_plge od_pleq an_pleq od_base an_base od_edn an_edn od_spot an_spot od_seenr an_seenr od_movesr an_movesr od_chainr an_chainr od_law an_law : Option Addr} {sl_fresh sl_fill sl_take sl_one sl_allw sl_somew sl_kept sl_isnum sl_upto sl_isrow sl_isword sl_wkinit sl_wklen sl_wkin sl_wkend sl_wkeq sl_cuts sl_counts sl_edinit sl_edlen sl_rcount sl_rcut sl_cutb sl_countat sl_kernel sl_onew sl_plinit sl_plcut sl_plseen sl_plmoved sl_pladd sl_plradd sl_plsub sl_rsize sl_plfdiv sl_plmod sl_pllt sl_plle sl_plgt sl_plge sl_pleq sl_base sl_edn sl_spot sl_seenr sl_movesr sl_chainr sl_law : Array (Option Value)} {oc_fresh kV_fresh dc_fresh pm_fresh cd_fresh ct_fresh oc_fill kV_fill dc_fill pm_fill cd_fill ct_fill oc_take kV_take dc_take pm_take cd_take ct_take oc_one kV_one dc_one pm_one cd_one ct_one oc_allw kV_allw dc_allw pm_allw cd_allw ct_allw oc_somew kV_somew dc_somew pm_somew cd_somew ct_somew oc_kept kV_kept dc_kept pm_kept cd_kept ct_kept oc_isnum kV_isnum dc_isnum pm_isnum cd_isnum ct_isnum oc_upto kV_upto dc_upto pm_upto cd_upto ct_upto oc_isrow kV_isrow dc_isrow pm_isrow cd_isrow ct_isrow oc_isword kV_isword dc_isword pm_isword cd_isword ct_isword oc_wkinit kV_wkinit dc_wkinit pm_wkinit cd_wkinit ct_wkinit oc_wklen kV_wklen dc_wklen pm_wklen cd_wklen ct_wklen oc_wkin kV_wkin dc_wkin pm_wkin cd_wkin ct_wkin oc_wkend kV_wkend dc_wkend pm_wkend cd_wkend ct_wkend oc_wkeq kV_wkeq dc_wkeq pm_wkeq cd_wkeq ct_wkeq oc_cuts kV_cuts dc_cuts pm_cuts cd_cuts ct_cuts oc_counts kV_counts dc_counts pm_counts cd_counts ct_counts oc_edinit kV_edinit dc_edinit pm_edinit cd_edinit ct_edinit oc_edlen kV_edlen dc_edlen pm_edlen cd_edlen ct_edlen oc_rcount kV_rcount dc_rcount pm_rcount cd_rcount ct_rcount oc_rcut kV_rcut dc_rcut pm_rcut cd_rcut ct_rcut oc_cutb kV_cutb dc_cutb pm_cutb cd_cutb ct_cutb oc_countat kV_countat dc_countat pm_countat cd_countat ct_countat oc_kernel kV_kernel dc_kernel pm_kernel cd_kernel ct_kernel oc_onew kV_onew dc_onew pm_onew cd_onew ct_onew oc_plinit kV_plinit dc_plinit pm_plinit cd_plinit ct_plinit oc_plcut kV_plcut dc_plcut pm_plcut cd_plcut ct_plcut oc_plseen kV_plseen dc_plseen pm_plseen cd_plseen ct_plseen oc_plmoved kV_plmoved dc_plmoved pm_plmoved cd_plmoved ct_plmoved oc_pladd kV_pladd dc_pladd pm_pladd cd_pladd ct_pladd oc_plradd kV_plradd dc_plradd pm_plradd cd_plradd ct_plradd oc_plsub kV_plsub dc_plsub pm_plsub cd_plsub ct_plsub oc_rsize kV_rsize dc_rsize pm_rsize cd_rsize ct_rsize oc_plfdiv kV_plfdiv dc_plfdiv pm_plfdiv cd_plfdiv ct_plfdiv oc_plmod kV_plmod dc_plmod pm_plmod cd_plmod ct_plmod oc_pllt kV_pllt dc_pllt pm_pllt cd_pllt ct_pllt oc_plle kV_plle dc_plle pm_plle cd_plle ct_plle oc_plgt kV_plgt dc_plgt pm_plgt cd_plgt ct_plgt oc_plge kV_plge dc_plge pm_plge cd_plge ct_plge oc_pleq kV_pleq dc_pleq pm_pleq cd_pleq ct_pleq oc_base kV_base dc_base pm_base cd_base ct_base oc_edn kV_edn dc_edn pm_edn cd_edn ct_edn oc_spot kV_spot dc_spot pm_spot cd_spot ct_spot oc_seenr kV_seenr dc_seenr pm_seenr cd_seenr ct_seenr oc_movesr kV_movesr dc_movesr pm_movesr cd_movesr ct_movesr oc_chainr kV_chainr dc_chainr pm_chainr cd_chainr ct_chainr oc_law kV_law dc_law pm_law cd_law ct_law : Value} {tL tW : Tok}
    {rest_cut : List Value}
    (a_Work : PySem.W.nsIn K mainGlobals "Work" = some (some (.ref C_Work)))
    (pg_Work : PySem.W.plainGet K C_Work Str.empty = true)
    (hd_Work : PySem.W.hasDictIn K C_Work = true)
    (po_Work : PySem.W.plainOver K C_Work = true)
    (sa_Work : PySem.W.findIn K (.ref C_Work) "__setattr__" = some (some (.builtin "object.__setattr__")))
    (mk_Work : PySem.W.makesIn K C_Work = true)
    (kc_Work : PySem.W.keepIn K (.ref C_Work) = true)
    (n_Work_name : PySem.W.findIn K (.ref C_Work) "name" = some none)
    (n_Work_words : PySem.W.findIn K (.ref C_Work) "words" = some none)
    (n_Work_ends : PySem.W.findIn K (.ref C_Work) "ends" = some none)
    (ha_Work : PySem.W.findIn K (.ref C_Work) "__class__" = some (some (.builtin "object.__class__")))
    (hn_Work : PySem.W.specialIn K (.builtin "object.__class__") "__get__" = some (some (.builtin "getset_descriptor.__get__")))
    (htk_Work : PySem.W.takesIn K (.builtin "object.__class__") = some true)
    (hm_Work : PySem.W.mroIn K C_Work (.type "object") = some true)
    (ne_Work : PySem.W.findIn K (.ref C_Work) "__ne__" = some (some (.builtin "object.__ne__")))
    (ob_Work : PySem.W.subIn K (.ref C_Work) (.type "object") = some true)
    (a_Edition : PySem.W.nsIn K mainGlobals "Edition" = some (some (.ref C_Edition)))
    (pg_Edition : PySem.W.plainGet K C_Edition Str.empty = true)
    (hd_Edition : PySem.W.hasDictIn K C_Edition = true)
    (po_Edition : PySem.W.plainOver K C_Edition = true)
    (sa_Edition : PySem.W.findIn K (.ref C_Edition) "__setattr__" = some (some (.builtin "object.__setattr__")))
    (mk_Edition : PySem.W.makesIn K C_Edition = true)
    (kc_Edition : PySem.W.keepIn K (.ref C_Edition) = true)
    (n_Edition_work : PySem.W.findIn K (.ref C_Edition) "work" = some none)
    (n_Edition_words : PySem.W.findIn K (.ref C_Edition) "words" = some none)
    (n_Edition_cuts : PySem.W.findIn K (.ref C_Edition) "cuts" = some none)
    (n_Edition_counts : PySem.W.findIn K (.ref C_Edition) "counts" = some none)
    (a_Place : PySem.W.nsIn K mainGlobals "Place" = some (some (.ref C_Place)))
    (pg_Place : PySem.W.plainGet K C_Place Str.empty = true)
    (hd_Place : PySem.W.hasDictIn K C_Place = true)
    (po_Place : PySem.W.plainOver K C_Place = true)
    (sa_Place : PySem.W.findIn K (.ref C_Place) "__setattr__" = some (some (.builtin "object.__setattr__")))
    (mk_Place : PySem.W.makesIn K C_Place = true)
    (kc_Place : PySem.W.keepIn K (.ref C_Place) = true)
    (n_Place_edition : PySem.W.findIn K (.ref C_Place) "edition" = some none)
    (n_Place_count : PySem.W.findIn K (.ref C_Place) "count" = some none)
    (ha_Place : PySem.W.findIn K (.ref C_Place) "__class__" = some (some (.builtin "object.__class__")))
    (hm_Place : PySem.W.mroIn K C_Place (.type "object") = some true)
    (ty_Place : PySem.W.typeIn K (.ref C_Place) = some (.type "type"))
    (sf_Place : PySem.W.selfFirst K C_Place = true)
    (si_Place : PySem.W.subIn K (.ref C_Place) (.type "int") = some false)
    (is_Place : PySem.W.subIn K (.type "int") (.ref C_Place) = some false)
    (rsub_Place : PySem.W.findIn K (.ref C_Place) (PySem.dunderR "sub") = some none)
    (rfloordiv_Place : PySem.W.findIn K (.ref C_Place) (PySem.dunderR "floordiv") = some none)
    (rmod_Place : PySem.W.findIn K (.ref C_Place) (PySem.dunderR "mod") = some none)
    (jadd_Place : PySem.W.findIn K (.type "int") (PySem.dunder "add") = some (some (.builtin "int.__add__")))
    (jsub_Place : PySem.W.findIn K (.type "int") (PySem.dunder "sub") = some (some (.builtin "int.__sub__")))
    (jfloordiv_Place : PySem.W.findIn K (.type "int") (PySem.dunder "floordiv") = some (some (.builtin "int.__floordiv__")))
    (jmod_Place : PySem.W.findIn K (.type "int") (PySem.dunder "mod") = some (some (.builtin "int.__mod__")))
    (qadd_Place : PySem.W.findIn K (.type "int") (PySem.dunderR "add") = some (some (.builtin "int.__radd__")))
    (qsub_Place : PySem.W.findIn K (.type "int") (PySem.dunderR "sub") = some (some (.builtin "int.__rsub__")))
    (qfloordiv_Place : PySem.W.findIn K (.type "int") (PySem.dunderR "floordiv") = some (some (.builtin "int.__rfloordiv__")))
    (qmod_Place : PySem.W.findIn K (.type "int") (PySem.dunderR "mod") = some (some (.builtin "int.__rmod__")))
    (zmin_Place : PySem.W.nsIn K mainGlobals "min" = some none)
    (a_fresh : PySem.W.nsIn K mainGlobals "_law_fresh" = some (some (.ref f_fresh)))
    (l_fresh : K.lookup f_fresh = some ⟨oc_fresh, od_fresh, .func (PySem.W.fnOf "_law_fresh" "_law_fresh" (defArgs s_fresh) (defBody s_fresh) (defScope s_fresh) .none kV_fresh dc_fresh pm_fresh an_fresh cd_fresh ct_fresh), sl_fresh⟩)
    (c_fresh : PySem.W.codeIn K cd_fresh "_law_fresh" = true)
    (k_fresh : PySem.W.keepIn K (.ref f_fresh) = true)
    (a_fill : PySem.W.nsIn K mainGlobals "_law_fill" = some (some (.ref f_fill)))
    (l_fill : K.lookup f_fill = some ⟨oc_fill, od_fill, .func (PySem.W.fnOf "_law_fill" "_law_fill" (defArgs s_fill) (defBody s_fill) (defScope s_fill) .none kV_fill dc_fill pm_fill an_fill cd_fill ct_fill), sl_fill⟩)
    (c_fill : PySem.W.codeIn K cd_fill "_law_fill" = true)
    (k_fill : PySem.W.keepIn K (.ref f_fill) = true)
    (a_take : PySem.W.nsIn K mainGlobals "_law_take" = some (some (.ref f_take)))
    (l_take : K.lookup f_take = some ⟨oc_take, od_take, .func (PySem.W.fnOf "_law_take" "_law_take" (defArgs s_take) (defBody s_take) (defScope s_take) .none kV_take dc_take pm_take an_take cd_take ct_take), sl_take⟩)
    (c_take : PySem.W.codeIn K cd_take "_law_take" = true)
    (k_take : PySem.W.keepIn K (.ref f_take) = true)
    (a_one : PySem.W.nsIn K mainGlobals "_law_one" = some (some (.ref f_one)))
    (l_one : K.lookup f_one = some ⟨oc_one, od_one, .func (PySem.W.fnOf "_law_one" "_law_one" (defArgs s_one) (defBody s_one) (defScope s_one) .none kV_one dc_one pm_one an_one cd_one ct_one), sl_one⟩)
    (c_one : PySem.W.codeIn K cd_one "_law_one" = true)
    (k_one : PySem.W.keepIn K (.ref f_one) = true)
    (a_allw : PySem.W.nsIn K mainGlobals "_law_all_words" = some (some (.ref f_allw)))
    (l_allw : K.lookup f_allw = some ⟨oc_allw, od_allw, .func (PySem.W.fnOf "_law_all_words" "_law_all_words" (defArgs s_all_words) (defBody s_all_words) (defScope s_all_words) .none kV_allw dc_allw pm_allw an_allw cd_allw ct_allw), sl_allw⟩)
    (c_allw : PySem.W.codeIn K cd_allw "_law_all_words" = true)
    (k_allw : PySem.W.keepIn K (.ref f_allw) = true)
    (a_somew : PySem.W.nsIn K mainGlobals "_law_some_words" = some (some (.ref f_somew)))
    (l_somew : K.lookup f_somew = some ⟨oc_somew, od_somew, .func (PySem.W.fnOf "_law_some_words" "_law_some_words" (defArgs s_some_words) (defBody s_some_words) (defScope s_some_words) .none kV_somew dc_somew pm_somew an_somew cd_somew ct_somew), sl_somew⟩)
    (c_somew : PySem.W.codeIn K cd_somew "_law_some_words" = true)
    (k_somew : PySem.W.keepIn K (.ref f_somew) = true)
    (a_kept : PySem.W.nsIn K mainGlobals "_law_kept" = some (some (.ref f_kept)))
    (l_kept : K.lookup f_kept = some ⟨oc_kept, od_kept, .func (PySem.W.fnOf "_law_kept" "_law_kept" (defArgs s_kept) (defBody s_kept) (defScope s_kept) .none kV_kept dc_kept pm_kept an_kept cd_kept ct_kept), sl_kept⟩)
    (c_kept : PySem.W.codeIn K cd_kept "_law_kept" = true)
    (k_kept : PySem.W.keepIn K (.ref f_kept) = true)
    (a_isnum : PySem.W.nsIn K mainGlobals "is_number" = some (some (.ref f_isnum)))
    (l_isnum : K.lookup f_isnum = some ⟨oc_isnum, od_isnum, .func (PySem.W.fnOf "is_number" "is_number" (defArgs s_is_number) (defBody s_is_number) (defScope s_is_number) .none kV_isnum dc_isnum pm_isnum an_isnum cd_isnum ct_isnum), sl_isnum⟩)
    (c_isnum : PySem.W.codeIn K cd_isnum "is_number" = true)
    (k_isnum : PySem.W.keepIn K (.ref f_isnum) = true)
    (a_upto : PySem.W.nsIn K mainGlobals "is_up_to" = some (some (.ref f_upto)))
    (l_upto : K.lookup f_upto = some ⟨oc_upto, od_upto, .func (PySem.W.fnOf "is_up_to" "is_up_to" (defArgs s_is_up_to) (defBody s_is_up_to) (defScope s_is_up_to) .none kV_upto dc_upto pm_upto an_upto cd_upto ct_upto), sl_upto⟩)
    (c_upto : PySem.W.codeIn K cd_upto "is_up_to" = true)
    (k_upto : PySem.W.keepIn K (.ref f_upto) = true)
    (a_isrow : PySem.W.nsIn K mainGlobals "is_row" = some (some (.ref f_isrow)))
    (l_isrow : K.lookup f_isrow = some ⟨oc_isrow, od_isrow, .func (PySem.W.fnOf "is_row" "is_row" (defArgs s_is_row) (defBody s_is_row) (defScope s_is_row) .none kV_isrow dc_isrow pm_isrow an_isrow cd_isrow ct_isrow), sl_isrow⟩)
    (c_isrow : PySem.W.codeIn K cd_isrow "is_row" = true)
    (k_isrow : PySem.W.keepIn K (.ref f_isrow) = true)
    (a_isword : PySem.W.nsIn K mainGlobals "is_word" = some (some (.ref f_isword)))
    (l_isword : K.lookup f_isword = some ⟨oc_isword, od_isword, .func (PySem.W.fnOf "is_word" "is_word" (defArgs s_is_word) (defBody s_is_word) (defScope s_is_word) .none kV_isword dc_isword pm_isword an_isword cd_isword ct_isword), sl_isword⟩)
    (c_isword : PySem.W.codeIn K cd_isword "is_word" = true)
    (k_isword : PySem.W.keepIn K (.ref f_isword) = true)
    (a_wkinit : PySem.W.findIn K (.ref C_Work) "__init__" = some (some (.ref f_wkinit)))
    (i_wkinit : PySem.W.isFn K (.ref f_wkinit) = true)
    (l_wkinit : K.lookup f_wkinit = some ⟨oc_wkinit, od_wkinit, .func (PySem.W.fnOf "__init__" "Work.__init__" (defArgs s_Work_init) (defBody s_Work_init) (defScope s_Work_init) .none kV_wkinit dc_wkinit pm_wkinit an_wkinit cd_wkinit ct_wkinit), sl_wkinit⟩)
    (c_wkinit : PySem.W.codeIn K cd_wkinit "Work.__init__" = true)
    (k_wkinit : PySem.W.keepIn K (.ref f_wkinit) = true)
    (a_wklen : PySem.W.findIn K (.ref C_Work) "__len__" = some (some (.ref f_wklen)))
    (i_wklen : PySem.W.isFn K (.ref f_wklen) = true)
    (l_wklen : K.lookup f_wklen = some ⟨oc_wklen, od_wklen, .func (PySem.W.fnOf "__len__" "Work.__len__" (defArgs s_Work_len) (defBody s_Work_len) (defScope s_Work_len) .none kV_wklen dc_wklen pm_wklen an_wklen cd_wklen ct_wklen), sl_wklen⟩)
    (c_wklen : PySem.W.codeIn K cd_wklen "Work.__len__" = true)
    (k_wklen : PySem.W.keepIn K (.ref f_wklen) = true)
    (a_wkin : PySem.W.findIn K (.ref C_Work) "__contains__" = some (some (.ref f_wkin)))
    (i_wkin : PySem.W.isFn K (.ref f_wkin) = true)
    (l_wkin : K.lookup f_wkin = some ⟨oc_wkin, od_wkin, .func (PySem.W.fnOf "__contains__" "Work.__contains__" (defArgs s_Work_contains) (defBody s_Work_contains) (defScope s_Work_contains) .none kV_wkin dc_wkin pm_wkin an_wkin cd_wkin ct_wkin), sl_wkin⟩)
    (c_wkin : PySem.W.codeIn K cd_wkin "Work.__contains__" = true)
    (k_wkin : PySem.W.keepIn K (.ref f_wkin) = true)
    (a_wkend : PySem.W.findIn K (.ref C_Work) "end_of" = some (some (.ref f_wkend)))
    (i_wkend : PySem.W.isFn K (.ref f_wkend) = true)
    (l_wkend : K.lookup f_wkend = some ⟨oc_wkend, od_wkend, .func (PySem.W.fnOf "end_of" "Work.end_of" (defArgs s_Work_end_of) (defBody s_Work_end_of) (defScope s_Work_end_of) .none kV_wkend dc_wkend pm_wkend an_wkend cd_wkend ct_wkend), sl_wkend⟩)
    (c_wkend : PySem.W.codeIn K cd_wkend "Work.end_of" = true)
    (k_wkend : PySem.W.keepIn K (.ref f_wkend) = true)
    (a_wkeq : PySem.W.findIn K (.ref C_Work) "__eq__" = some (some (.ref f_wkeq)))
    (i_wkeq : PySem.W.isFn K (.ref f_wkeq) = true)
    (l_wkeq : K.lookup f_wkeq = some ⟨oc_wkeq, od_wkeq, .func (PySem.W.fnOf "__eq__" "Work.__eq__" (defArgs s_Work_eq) (defBody s_Work_eq) (defScope s_Work_eq) .none kV_wkeq dc_wkeq pm_wkeq an_wkeq cd_wkeq ct_wkeq), sl_wkeq⟩)
    (c_wkeq : PySem.W.codeIn K cd_wkeq "Work.__eq__" = true)
    (k_wkeq : PySem.W.keepIn K (.ref f_wkeq) = true)
    (a_cuts : PySem.W.nsIn K mainGlobals "cuts_behind" = some (some (.ref f_cuts)))
    (l_cuts : K.lookup f_cuts = some ⟨oc_cuts, od_cuts, .func (PySem.W.fnOf "cuts_behind" "cuts_behind" (defArgs s_cuts_behind) (defBody s_cuts_behind) (defScope s_cuts_behind) .none kV_cuts dc_cuts pm_cuts an_cuts cd_cuts ct_cuts), sl_cuts⟩)
    (c_cuts : PySem.W.codeIn K cd_cuts "cuts_behind" = true)
    (k_cuts : PySem.W.keepIn K (.ref f_cuts) = true)
    (a_counts : PySem.W.nsIn K mainGlobals "counts_at" = some (some (.ref f_counts)))
    (l_counts : K.lookup f_counts = some ⟨oc_counts, od_counts, .func (PySem.W.fnOf "counts_at" "counts_at" (defArgs s_counts_at) (defBody s_counts_at) (defScope s_counts_at) .none kV_counts dc_counts pm_counts an_counts cd_counts ct_counts), sl_counts⟩)
    (c_counts : PySem.W.codeIn K cd_counts "counts_at" = true)
    (k_counts : PySem.W.keepIn K (.ref f_counts) = true)
    (a_edinit : PySem.W.findIn K (.ref C_Edition) "__init__" = some (some (.ref f_edinit)))
    (i_edinit : PySem.W.isFn K (.ref f_edinit) = true)
    (l_edinit : K.lookup f_edinit = some ⟨oc_edinit, od_edinit, .func (PySem.W.fnOf "__init__" "Edition.__init__" (defArgs s_Edition_init) (defBody s_Edition_init) (defScope s_Edition_init) .none kV_edinit dc_edinit pm_edinit an_edinit cd_edinit ct_edinit), sl_edinit⟩)
    (c_edinit : PySem.W.codeIn K cd_edinit "Edition.__init__" = true)
    (k_edinit : PySem.W.keepIn K (.ref f_edinit) = true)
    (a_edlen : PySem.W.findIn K (.ref C_Edition) "__len__" = some (some (.ref f_edlen)))
    (i_edlen : PySem.W.isFn K (.ref f_edlen) = true)
    (l_edlen : K.lookup f_edlen = some ⟨oc_edlen, od_edlen, .func (PySem.W.fnOf "__len__" "Edition.__len__" (defArgs s_Edition_len) (defBody s_Edition_len) (defScope s_Edition_len) .none kV_edlen dc_edlen pm_edlen an_edlen cd_edlen ct_edlen), sl_edlen⟩)
    (c_edlen : PySem.W.codeIn K cd_edlen "Edition.__len__" = true)
    (k_edlen : PySem.W.keepIn K (.ref f_edlen) = true)
    (a_rcount : PySem.W.nsIn K mainGlobals "require_count" = some (some (.ref f_rcount)))
    (l_rcount : K.lookup f_rcount = some ⟨oc_rcount, od_rcount, .func (PySem.W.fnOf "require_count" "require_count" (defArgs s_require_count) (defBody s_require_count) (defScope s_require_count) .none kV_rcount dc_rcount pm_rcount an_rcount cd_rcount ct_rcount), sl_rcount⟩)
    (c_rcount : PySem.W.codeIn K cd_rcount "require_count" = true)
    (k_rcount : PySem.W.keepIn K (.ref f_rcount) = true)
    (a_rcut : PySem.W.nsIn K mainGlobals "require_cut" = some (some (.ref f_rcut)))
    (l_rcut : K.lookup f_rcut = some ⟨oc_rcut, od_rcut, .func (PySem.W.fnOf "require_cut" "require_cut" (defArgs s_require_cut) (defBody s_require_cut) (defScope s_require_cut) .none kV_rcut dc_rcut pm_rcut an_rcut cd_rcut ct_rcut), sl_rcut⟩)
    (c_rcut : PySem.W.codeIn K cd_rcut "require_cut" = true)
    (k_rcut : PySem.W.keepIn K (.ref f_rcut) = true)
    (a_cutb : PySem.W.findIn K (.ref C_Edition) "cut_behind" = some (some (.ref f_cutb)))
    (i_cutb : PySem.W.isFn K (.ref f_cutb) = true)
    (l_cutb : K.lookup f_cutb = some ⟨oc_cutb, od_cutb, .func (PySem.W.fnOf "cut_behind" "Edition.cut_behind" (defArgs s_Edition_cut_behind) (defBody s_Edition_cut_behind) (defScope s_Edition_cut_behind) .none kV_cutb dc_cutb pm_cutb an_cutb cd_cutb ct_cutb), sl_cutb⟩)
    (c_cutb : PySem.W.codeIn K cd_cutb "Edition.cut_behind" = true)
    (k_cutb : PySem.W.keepIn K (.ref f_cutb) = true)
    (a_countat : PySem.W.findIn K (.ref C_Edition) "count_at" = some (some (.ref f_countat)))
    (i_countat : PySem.W.isFn K (.ref f_countat) = true)
    (l_countat : K.lookup f_countat = some ⟨oc_countat, od_countat, .func (PySem.W.fnOf "count_at" "Edition.count_at" (defArgs s_Edition_count_at) (defBody s_Edition_count_at) (defScope s_Edition_count_at) .none kV_countat dc_countat pm_countat an_countat cd_countat ct_countat), sl_countat⟩)
    (c_countat : PySem.W.codeIn K cd_countat "Edition.count_at" = true)
    (k_countat : PySem.W.keepIn K (.ref f_countat) = true)
    (a_kernel : PySem.W.findIn K (.ref C_Edition) "kernel" = some (some (.ref f_kernel)))
    (i_kernel : PySem.W.isFn K (.ref f_kernel) = true)
    (l_kernel : K.lookup f_kernel = some ⟨oc_kernel, od_kernel, .func (PySem.W.fnOf "kernel" "Edition.kernel" (defArgs s_Edition_kernel) (defBody s_Edition_kernel) (defScope s_Edition_kernel) .none kV_kernel dc_kernel pm_kernel an_kernel cd_kernel ct_kernel), sl_kernel⟩)
    (c_kernel : PySem.W.codeIn K cd_kernel "Edition.kernel" = true)
    (k_kernel : PySem.W.keepIn K (.ref f_kernel) = true)
    (a_onew : PySem.W.nsIn K mainGlobals "require_one_work" = some (some (.ref f_onew)))
    (l_onew : K.lookup f_onew = some ⟨oc_onew, od_onew, .func (PySem.W.fnOf "require_one_work" "require_one_work" (defArgs s_require_one_work) (defBody s_require_one_work) (defScope s_require_one_work) .none kV_onew dc_onew pm_onew an_onew cd_onew ct_onew), sl_onew⟩)
    (c_onew : PySem.W.codeIn K cd_onew "require_one_work" = true)
    (k_onew : PySem.W.keepIn K (.ref f_onew) = true)
    (a_plinit : PySem.W.findIn K (.ref C_Place) "__init__" = some (some (.ref f_plinit)))
    (i_plinit : PySem.W.isFn K (.ref f_plinit) = true)
    (l_plinit : K.lookup f_plinit = some ⟨oc_plinit, od_plinit, .func (PySem.W.fnOf "__init__" "Place.__init__" (defArgs s_Place_init) (defBody s_Place_init) (defScope s_Place_init) .none kV_plinit dc_plinit pm_plinit an_plinit cd_plinit ct_plinit), sl_plinit⟩)
    (c_plinit : PySem.W.codeIn K cd_plinit "Place.__init__" = true)
    (k_plinit : PySem.W.keepIn K (.ref f_plinit) = true)
    (y_cut1 : PySem.W.findIn K (.ref C_Place) "cut" = some (some (.ref p_cut)))
    (y_cut2 : PySem.W.specialIn K (.ref p_cut) "__get__" = some (some (.builtin "property.__get__")))
    (y_cut3 : PySem.W.takesIn K (.ref p_cut) = some true)
    (y_cut4 : PySem.W.recIn K p_cut "property" = some (.ref f_plcut :: rest_cut))
    (l_plcut : K.lookup f_plcut = some ⟨oc_plcut, od_plcut, .func (PySem.W.fnOf "cut" "Place.cut" (defArgs s_Place_cut) (defBody s_Place_cut) (defScope s_Place_cut) .none kV_plcut dc_plcut pm_plcut an_plcut cd_plcut ct_plcut), sl_plcut⟩)
    (c_plcut : PySem.W.codeIn K cd_plcut "Place.cut" = true)
    (k_plcut : PySem.W.keepIn K (.ref f_plcut) = true)
    (a_plseen : PySem.W.findIn K (.ref C_Place) "seen" = some (some (.ref f_plseen)))
    (i_plseen : PySem.W.isFn K (.ref f_plseen) = true)
    (l_plseen : K.lookup f_plseen = some ⟨oc_plseen, od_plseen, .func (PySem.W.fnOf "seen" "Place.seen" (defArgs s_Place_seen) (defBody s_Place_seen) (defScope s_Place_seen) .none kV_plseen dc_plseen pm_plseen an_plseen cd_plseen ct_plseen), sl_plseen⟩)
    (c_plseen : PySem.W.codeIn K cd_plseen "Place.seen" = true)
    (k_plseen : PySem.W.keepIn K (.ref f_plseen) = true)
    (a_plmoved : PySem.W.findIn K (.ref C_Place) "moved" = some (some (.ref f_plmoved)))
    (i_plmoved : PySem.W.isFn K (.ref f_plmoved) = true)
    (l_plmoved : K.lookup f_plmoved = some ⟨oc_plmoved, od_plmoved, .func (PySem.W.fnOf "moved" "Place.moved" (defArgs s_Place_moved) (defBody s_Place_moved) (defScope s_Place_moved) .none kV_plmoved dc_plmoved pm_plmoved an_plmoved cd_plmoved ct_plmoved), sl_plmoved⟩)
    (c_plmoved : PySem.W.codeIn K cd_plmoved "Place.moved" = true)
    (k_plmoved : PySem.W.keepIn K (.ref f_plmoved) = true)
    (a_pladd : PySem.W.findIn K (.ref C_Place) "__add__" = some (some (.ref f_pladd)))
    (i_pladd : PySem.W.isFn K (.ref f_pladd) = true)
    (l_pladd : K.lookup f_pladd = some ⟨oc_pladd, od_pladd, .func (PySem.W.fnOf "__add__" "Place.__add__" (defArgs s_Place_add) (defBody s_Place_add) (defScope s_Place_add) .none kV_pladd dc_pladd pm_pladd an_pladd cd_pladd ct_pladd), sl_pladd⟩)
    (c_pladd : PySem.W.codeIn K cd_pladd "Place.__add__" = true)
    (k_pladd : PySem.W.keepIn K (.ref f_pladd) = true)
    (a_plradd : PySem.W.findIn K (.ref C_Place) "__radd__" = some (some (.ref f_plradd)))
    (i_plradd : PySem.W.isFn K (.ref f_plradd) = true)
    (l_plradd : K.lookup f_plradd = some ⟨oc_plradd, od_plradd, .func (PySem.W.fnOf "__radd__" "Place.__radd__" (defArgs s_Place_radd) (defBody s_Place_radd) (defScope s_Place_radd) .none kV_plradd dc_plradd pm_plradd an_plradd cd_plradd ct_plradd), sl_plradd⟩)
    (c_plradd : PySem.W.codeIn K cd_plradd "Place.__radd__" = true)
    (k_plradd : PySem.W.keepIn K (.ref f_plradd) = true)
    (a_plsub : PySem.W.findIn K (.ref C_Place) "__sub__" = some (some (.ref f_plsub)))
    (i_plsub : PySem.W.isFn K (.ref f_plsub) = true)
    (l_plsub : K.lookup f_plsub = some ⟨oc_plsub, od_plsub, .func (PySem.W.fnOf "__sub__" "Place.__sub__" (defArgs s_Place_sub) (defBody s_Place_sub) (defScope s_Place_sub) .none kV_plsub dc_plsub pm_plsub an_plsub cd_plsub ct_plsub), sl_plsub⟩)
    (c_plsub : PySem.W.codeIn K cd_plsub "Place.__sub__" = true)
    (k_plsub : PySem.W.keepIn K (.ref f_plsub) = true)
    (a_rsize : PySem.W.nsIn K mainGlobals "require_size" = some (some (.ref f_rsize)))
    (l_rsize : K.lookup f_rsize = some ⟨oc_rsize, od_rsize, .func (PySem.W.fnOf "require_size" "require_size" (defArgs s_require_size) (defBody s_require_size) (defScope s_require_size) .none kV_rsize dc_rsize pm_rsize an_rsize cd_rsize ct_rsize), sl_rsize⟩)
    (c_rsize : PySem.W.codeIn K cd_rsize "require_size" = true)
    (k_rsize : PySem.W.keepIn K (.ref f_rsize) = true)
    (a_plfdiv : PySem.W.findIn K (.ref C_Place) "__floordiv__" = some (some (.ref f_plfdiv)))
    (i_plfdiv : PySem.W.isFn K (.ref f_plfdiv) = true)
    (l_plfdiv : K.lookup f_plfdiv = some ⟨oc_plfdiv, od_plfdiv, .func (PySem.W.fnOf "__floordiv__" "Place.__floordiv__" (defArgs s_Place_floordiv) (defBody s_Place_floordiv) (defScope s_Place_floordiv) .none kV_plfdiv dc_plfdiv pm_plfdiv an_plfdiv cd_plfdiv ct_plfdiv), sl_plfdiv⟩)
    (c_plfdiv : PySem.W.codeIn K cd_plfdiv "Place.__floordiv__" = true)
    (k_plfdiv : PySem.W.keepIn K (.ref f_plfdiv) = true)
    (a_plmod : PySem.W.findIn K (.ref C_Place) "__mod__" = some (some (.ref f_plmod)))
    (i_plmod : PySem.W.isFn K (.ref f_plmod) = true)
    (l_plmod : K.lookup f_plmod = some ⟨oc_plmod, od_plmod, .func (PySem.W.fnOf "__mod__" "Place.__mod__" (defArgs s_Place_mod) (defBody s_Place_mod) (defScope s_Place_mod) .none kV_plmod dc_plmod pm_plmod an_plmod cd_plmod ct_plmod), sl_plmod⟩)
    (c_plmod : PySem.W.codeIn K cd_plmod "Place.__mod__" = true)
    (k_plmod : PySem.W.keepIn K (.ref f_plmod) = true)
    (a_pllt : PySem.W.findIn K (.ref C_Place) "__lt__" = some (some (.ref f_pllt)))
    (i_pllt : PySem.W.isFn K (.ref f_pllt) = true)
    (l_pllt : K.lookup f_pllt = some ⟨oc_pllt, od_pllt, .func (PySem.W.fnOf "__lt__" "Place.__lt__" (defArgs s_Place_lt) (defBody s_Place_lt) (defScope s_Place_lt) .none kV_pllt dc_pllt pm_pllt an_pllt cd_pllt ct_pllt), sl_pllt⟩)
    (c_pllt : PySem.W.codeIn K cd_pllt "Place.__lt__" = true)
    (k_pllt : PySem.W.keepIn K (.ref f_pllt) = true)
    (a_plle : PySem.W.findIn K (.ref C_Place) "__le__" = some (some (.ref f_plle)))
    (i_plle : PySem.W.isFn K (.ref f_plle) = true)
    (l_plle : K.lookup f_plle = some ⟨oc_plle, od_plle, .func (PySem.W.fnOf "__le__" "Place.__le__" (defArgs s_Place_le) (defBody s_Place_le) (defScope s_Place_le) .none kV_plle dc_plle pm_plle an_plle cd_plle ct_plle), sl_plle⟩)
    (c_plle : PySem.W.codeIn K cd_plle "Place.__le__" = true)
    (k_plle : PySem.W.keepIn K (.ref f_plle) = true)
    (a_plgt : PySem.W.findIn K (.ref C_Place) "__gt__" = some (some (.ref f_plgt)))
    (i_plgt : PySem.W.isFn K (.ref f_plgt) = true)
    (l_plgt : K.lookup f_plgt = some ⟨oc_plgt, od_plgt, .func (PySem.W.fnOf "__gt__" "Place.__gt__" (defArgs s_Place_gt) (defBody s_Place_gt) (defScope s_Place_gt) .none kV_plgt dc_plgt pm_plgt an_plgt cd_plgt ct_plgt), sl_plgt⟩)
    (c_plgt : PySem.W.codeIn K cd_plgt "Place.__gt__" = true)
    (k_plgt : PySem.W.keepIn K (.ref f_plgt) = true)
    (a_plge : PySem.W.findIn K (.ref C_Place) "__ge__" = some (some (.ref f_plge)))
    (i_plge : PySem.W.isFn K (.ref f_plge) = true)
    (l_plge : K.lookup f_plge = some ⟨oc_plge, od_plge, .func (PySem.W.fnOf "__ge__" "Place.__ge__" (defArgs s_Place_ge) (defBody s_Place_ge) (defScope s_Place_ge) .none kV_plge dc_plge pm_plge an_plge cd_plge ct_plge), sl_plge⟩)
    (c_plge : PySem.W.codeIn K cd_plge "Place.__ge__" = true)
    (k_plge : PySem.W.keepIn K (.ref f_plge) = true)
    (a_pleq : PySem.W.findIn K (.ref C_Place) "__eq__" = some (some (.ref f_pleq)))
    (i_pleq : PySem.W.isFn K (.ref f_pleq) = true)
    (l_pleq : K.lookup f_pleq = some ⟨oc_pleq, od_pleq, .func (PySem.W.fnOf "__eq__" "Place.__eq__" (defArgs s_Place_eq) (defBody s_Place_eq) (defScope s_Place_eq) .none kV_pleq dc_pleq pm_pleq an_pleq cd_pleq ct_pleq), sl_pleq⟩)
    (c_pleq : PySem.W.codeIn K cd_pleq "Place.__eq__" = true)
    (k_pleq : PySem.W.keepIn K (.ref f_pleq) = true)
    (a_base : PySem.W.nsIn K mainGlobals "_law_base" = some (some (.ref f_base)))
    (l_base : K.lookup f_base = some ⟨oc_base, od_base, .func (PySem.W.fnOf "_law_base" "_law_base" (defArgs s_base) (defBody s_base) (defScope s_base) .none kV_base dc_base pm_base an_base cd_base ct_base), sl_base⟩)
    (c_base : PySem.W.codeIn K cd_base "_law_base" = true)
    (k_base : PySem.W.keepIn K (.ref f_base) = true)
    (a_edn : PySem.W.nsIn K mainGlobals "_law_edition" = some (some (.ref f_edn)))
    (l_edn : K.lookup f_edn = some ⟨oc_edn, od_edn, .func (PySem.W.fnOf "_law_edition" "_law_edition" (defArgs s_edition) (defBody s_edition) (defScope s_edition) .none kV_edn dc_edn pm_edn an_edn cd_edn ct_edn), sl_edn⟩)
    (c_edn : PySem.W.codeIn K cd_edn "_law_edition" = true)
    (k_edn : PySem.W.keepIn K (.ref f_edn) = true)
    (a_spot : PySem.W.nsIn K mainGlobals "_law_spot" = some (some (.ref f_spot)))
    (l_spot : K.lookup f_spot = some ⟨oc_spot, od_spot, .func (PySem.W.fnOf "_law_spot" "_law_spot" (defArgs s_spot) (defBody s_spot) (defScope s_spot) .none kV_spot dc_spot pm_spot an_spot cd_spot ct_spot), sl_spot⟩)
    (c_spot : PySem.W.codeIn K cd_spot "_law_spot" = true)
    (k_spot : PySem.W.keepIn K (.ref f_spot) = true)
    (a_seenr : PySem.W.nsIn K mainGlobals "_law_seen_right" = some (some (.ref f_seenr)))
    (l_seenr : K.lookup f_seenr = some ⟨oc_seenr, od_seenr, .func (PySem.W.fnOf "_law_seen_right" "_law_seen_right" (defArgs s_seen_right) (defBody s_seen_right) (defScope s_seen_right) .none kV_seenr dc_seenr pm_seenr an_seenr cd_seenr ct_seenr), sl_seenr⟩)
    (c_seenr : PySem.W.codeIn K cd_seenr "_law_seen_right" = true)
    (k_seenr : PySem.W.keepIn K (.ref f_seenr) = true)
    (a_movesr : PySem.W.nsIn K mainGlobals "_law_moves_right" = some (some (.ref f_movesr)))
    (l_movesr : K.lookup f_movesr = some ⟨oc_movesr, od_movesr, .func (PySem.W.fnOf "_law_moves_right" "_law_moves_right" (defArgs s_moves_right) (defBody s_moves_right) (defScope s_moves_right) .none kV_movesr dc_movesr pm_movesr an_movesr cd_movesr ct_movesr), sl_movesr⟩)
    (c_movesr : PySem.W.codeIn K cd_movesr "_law_moves_right" = true)
    (k_movesr : PySem.W.keepIn K (.ref f_movesr) = true)
    (a_chainr : PySem.W.nsIn K mainGlobals "_law_chain_right" = some (some (.ref f_chainr)))
    (l_chainr : K.lookup f_chainr = some ⟨oc_chainr, od_chainr, .func (PySem.W.fnOf "_law_chain_right" "_law_chain_right" (defArgs s_chain_right) (defBody s_chain_right) (defScope s_chain_right) .none kV_chainr dc_chainr pm_chainr an_chainr cd_chainr ct_chainr), sl_chainr⟩)
    (c_chainr : PySem.W.codeIn K cd_chainr "_law_chain_right" = true)
    (k_chainr : PySem.W.keepIn K (.ref f_chainr) = true)
    (a_law : PySem.W.nsIn K mainGlobals "law" = some (some (.ref f_law)))
    (l_law : K.lookup f_law = some ⟨oc_law, od_law, .func (PySem.W.fnOf "law" "law" (defArgs s_law) (defBody s_law) (defScope s_law) .none kV_law dc_law pm_law an_law cd_law ct_law), sl_law⟩)
    (c_law : PySem.W.codeIn K cd_law "law" = true)
    (k_law : PySem.W.keepIn K (.ref f_law) = true)
    (g_LETTERS : PySem.W.nsIn K mainGlobals "LETTERS" = some (some (.str "abcdefghijklmnopqrstuvwxyz" tL)))
    (g_LONGEST_WORD : PySem.W.nsIn K mainGlobals "LONGEST_WORD" = some (some (.int 8 tW)))
    (z_len : PySem.W.nsIn K mainGlobals "len" = some none)
    (z_int : PySem.W.nsIn K mainGlobals "int" = some none)
    (z_range : PySem.W.nsIn K mainGlobals "range" = some none)
    (z_enumerate : PySem.W.nsIn K mainGlobals "enumerate" = some none)
    (z_isinstance : PySem.W.nsIn K mainGlobals "isinstance" = some none)
    (z_list : PySem.W.nsIn K mainGlobals "list" = some none)
    (z_tuple : PySem.W.nsIn K mainGlobals "tuple" = some none)
    (z_str : PySem.W.nsIn K mainGlobals "str" = some none)
    (z_bool : PySem.W.nsIn K mainGlobals "bool" = some none)
    (z_all : PySem.W.nsIn K mainGlobals "all" = some none)
    (z_max : PySem.W.nsIn K mainGlobals "max" = some none)
    (z_zip : PySem.W.nsIn K mainGlobals "zip" = some none)
    : ∃ fd : FuncData, (∀ (s : Shared) (v : Value), BindsTo s fd ⟨[v], []⟩ [("_law_script", v)]) ∧ ∀ base : Heap, K.In base → base.Ns mainGlobals mg → FnOk l.prog w K mg base CX0 10 fa fd ["_law_script"] (spLaw K) := by
  have e := hfa.symm.trans (PySem.W.mg_of X G a_law)
  cases e
  have T : Blt mg := ⟨PySem.W.mg_none_of X G z_len, PySem.W.mg_none_of X G z_int, PySem.W.mg_none_of X G z_range, PySem.W.mg_none_of X G z_enumerate, PySem.W.mg_none_of X G z_isinstance, PySem.W.mg_none_of X G z_list, PySem.W.mg_none_of X G z_tuple, PySem.W.mg_none_of X G z_str, PySem.W.mg_none_of X G z_bool, PySem.W.mg_none_of X G z_all, PySem.W.mg_none_of X G z_max, PySem.W.mg_none_of X G z_zip⟩
  have cl_Work : Cls K C_Work := ⟨pg_Work, hd_Work, po_Work, sa_Work⟩
  have mg_Work := PySem.W.mg_of X G a_Work
  have cl_Edition : Cls K C_Edition := ⟨pg_Edition, hd_Edition, po_Edition, sa_Edition⟩
  have mg_Edition := PySem.W.mg_of X G a_Edition
  have cl_Place : Cls K C_Place := ⟨pg_Place, hd_Place, po_Place, sa_Place⟩
  have mg_Place := PySem.W.mg_of X G a_Place
  have TC : Cst mg tL tW := ⟨PySem.W.mg_of X G g_LETTERS, PySem.W.mg_of X G g_LONGEST_WORD⟩
  have WT : WkTxt K C_Work := ⟨cl_Work, n_Work_name, n_Work_words, n_Work_ends⟩
  have ET : EdTxt K C_Edition := ⟨cl_Edition, n_Edition_work, n_Edition_words, n_Edition_cuts, n_Edition_counts⟩
  have TI : WkIsi K mg C_Work := ⟨mg_Work, ha_Work, hn_Work, htk_Work, hm_Work, if_pos (beq_self_eq_true _)⟩
  have TN : WkNe K C_Work := ⟨ne_Work, ob_Work⟩
  have TM : BltM mg := { toBlt := T, b_min := PySem.W.mg_none_of X G zmin_Place }
  have PT : PlTxt K C_Place := ⟨cl_Place, n_Place_edition, n_Place_count⟩
  have PI : PlIsi K mg C_Place := ⟨mg_Place, ha_Place, hn_Work, htk_Work, hm_Place, if_pos (beq_self_eq_true _), kit_int hd_Place ty_Place is_Place⟩
  have PO : PlOps K C_Place f_pladd := ⟨sf_Place, a_pladd, si_Place, ⟨sf_Place, ⟨_, a_plradd, .inr ⟨_, rfl⟩⟩, ⟨_, jadd_Place⟩, ⟨_, qadd_Place⟩, is_Place⟩, ⟨sf_Place, ⟨_, rsub_Place, .inl rfl⟩, ⟨_, jsub_Place⟩, ⟨_, qsub_Place⟩, is_Place⟩, ⟨sf_Place, ⟨_, rfloordiv_Place, .inl rfl⟩, ⟨_, jfloordiv_Place⟩, ⟨_, qfloordiv_Place⟩, is_Place⟩, ⟨sf_Place, ⟨_, rmod_Place, .inl rfl⟩, ⟨_, jmod_Place⟩, ⟨_, qmod_Place⟩, is_Place⟩⟩
  have TP : BltP K mg C_Place f_pladd := { toBltM := TM, toPlOps := PO }
  have F_fresh := fun_mk (st := s_fresh) l_fresh c_fresh k_fresh
  have b_fresh := F_fresh.binds (ps := ["_law_script"]) fun _ _ _ _ _ _ us hl => match us, hl with | [_], _ => rfl
  have F_fill := fun_mk (st := s_fill) l_fill c_fill k_fill
  have b_fill := F_fill.binds (ps := ["_law_state"]) fun _ _ _ _ _ _ us hl => match us, hl with | [_], _ => rfl
  have F_take := fun_mk (st := s_take) l_take c_take k_take
  have b_take := F_take.binds (ps := ["_law_state", "_law_many"]) fun _ _ _ _ _ _ us hl => match us, hl with | [_, _], _ => rfl
  have F_one := fun_mk (st := s_one) l_one c_one k_one
  have b_one := F_one.binds (ps := ["_law_state", "_law_things"]) fun _ _ _ _ _ _ us hl => match us, hl with | [_, _], _ => rfl
  have F_allw := fun_mk (st := s_all_words) l_allw c_allw k_allw
  have b_allw := F_allw.binds (ps := []) fun _ _ _ _ _ _ us hl => match us, hl with | [], _ => rfl
  have F_somew := fun_mk (st := s_some_words) l_somew c_somew k_somew
  have b_somew := F_somew.binds (ps := ["_law_state", "_law_many"]) fun _ _ _ _ _ _ us hl => match us, hl with | [_, _], _ => rfl
  have F_kept := fun_mk (st := s_kept) l_kept c_kept k_kept
  have b_kept := F_kept.binds (ps := ["_law_state", "_law_many"]) fun _ _ _ _ _ _ us hl => match us, hl with | [_, _], _ => rfl
  have F_isnum := fun_mk (st := s_is_number) l_isnum c_isnum k_isnum
  have b_isnum := F_isnum.binds (ps := ["x"]) fun _ _ _ _ _ _ us hl => match us, hl with | [_], _ => rfl
  have F_upto := fun_mk (st := s_is_up_to) l_upto c_upto k_upto
  have b_upto := F_upto.binds (ps := ["x", "most"]) fun _ _ _ _ _ _ us hl => match us, hl with | [_, _], _ => rfl
  have F_isrow := fun_mk (st := s_is_row) l_isrow c_isrow k_isrow
  have b_isrow := F_isrow.binds (ps := ["x"]) fun _ _ _ _ _ _ us hl => match us, hl with | [_], _ => rfl
  have F_isword := fun_mk (st := s_is_word) l_isword c_isword k_isword
  have b_isword := F_isword.binds (ps := ["x"]) fun _ _ _ _ _ _ us hl => match us, hl with | [_], _ => rfl
  have F_wkinit := fun_mk (st := s_Work_init) l_wkinit c_wkinit k_wkinit
  have b_wkinit := F_wkinit.binds (ps := ["self", "name", "passages"]) fun _ _ _ _ _ _ us hl => match us, hl with | [_, _, _], _ => rfl
  have F_wklen := fun_mk (st := s_Work_len) l_wklen c_wklen k_wklen
  have b_wklen := F_wklen.binds (ps := ["self"]) fun _ _ _ _ _ _ us hl => match us, hl with | [_], _ => rfl
  have F_wkin := fun_mk (st := s_Work_contains) l_wkin c_wkin k_wkin
  have b_wkin := F_wkin.binds (ps := ["self", "x"]) fun _ _ _ _ _ _ us hl => match us, hl with | [_, _], _ => rfl
  have F_wkend := fun_mk (st := s_Work_end_of) l_wkend c_wkend k_wkend
  have b_wkend := F_wkend.binds (ps := ["self", "word"]) fun _ _ _ _ _ _ us hl => match us, hl with | [_, _], _ => rfl
  have F_wkeq := fun_mk (st := s_Work_eq) l_wkeq c_wkeq k_wkeq
  have b_wkeq := F_wkeq.binds (ps := ["self", "other"]) fun _ _ _ _ _ _ us hl => match us, hl with | [_, _], _ => rfl
  have F_cuts := fun_mk (st := s_cuts_behind) l_cuts c_cuts k_cuts
  have b_cuts := F_cuts.binds (ps := ["work", "passages"]) fun _ _ _ _ _ _ us hl => match us, hl with | [_, _], _ => rfl
  have F_counts := fun_mk (st := s_counts_at) l_counts c_counts k_counts
  have b_counts := F_counts.binds (ps := ["cuts", "length"]) fun _ _ _ _ _ _ us hl => match us, hl with | [_, _], _ => rfl
  have F_edinit := fun_mk (st := s_Edition_init) l_edinit c_edinit k_edinit
  have b_edinit := F_edinit.binds (ps := ["self", "work", "passages"]) fun _ _ _ _ _ _ us hl => match us, hl with | [_, _, _], _ => rfl
  have F_edlen := fun_mk (st := s_Edition_len) l_edlen c_edlen k_edlen
  have b_edlen := F_edlen.binds (ps := ["self"]) fun _ _ _ _ _ _ us hl => match us, hl with | [_], _ => rfl
  have F_rcount := fun_mk (st := s_require_count) l_rcount c_rcount k_rcount
  have b_rcount := F_rcount.binds (ps := ["count", "edition"]) fun _ _ _ _ _ _ us hl => match us, hl with | [_, _], _ => rfl
  have F_rcut := fun_mk (st := s_require_cut) l_rcut c_rcut k_rcut
  have b_rcut := F_rcut.binds (ps := ["cut", "work"]) fun _ _ _ _ _ _ us hl => match us, hl with | [_, _], _ => rfl
  have F_cutb := fun_mk (st := s_Edition_cut_behind) l_cutb c_cutb k_cutb
  have b_cutb := F_cutb.binds (ps := ["self", "count"]) fun _ _ _ _ _ _ us hl => match us, hl with | [_, _], _ => rfl
  have F_countat := fun_mk (st := s_Edition_count_at) l_countat c_countat k_countat
  have b_countat := F_countat.binds (ps := ["self", "cut"]) fun _ _ _ _ _ _ us hl => match us, hl with | [_, _], _ => rfl
  have F_kernel := fun_mk (st := s_Edition_kernel) l_kernel c_kernel k_kernel
  have b_kernel := F_kernel.binds (ps := ["self", "cut"]) fun _ _ _ _ _ _ us hl => match us, hl with | [_, _], _ => rfl
  have F_onew := fun_mk (st := s_require_one_work) l_onew c_onew k_onew
  have b_onew := F_onew.binds (ps := ["one", "other"]) fun _ _ _ _ _ _ us hl => match us, hl with | [_, _], _ => rfl
  have F_plinit := fun_mk (st := s_Place_init) l_plinit c_plinit k_plinit
  have b_plinit := F_plinit.binds (ps := ["self", "edition", "count"]) fun _ _ _ _ _ _ us hl => match us, hl with | [_, _, _], _ => rfl
  have F_plcut := fun_mk (st := s_Place_cut) l_plcut c_plcut k_plcut
  have b_plcut := F_plcut.binds (ps := ["self"]) fun _ _ _ _ _ _ us hl => match us, hl with | [_], _ => rfl
  have F_plseen := fun_mk (st := s_Place_seen) l_plseen c_plseen k_plseen
  have b_plseen := F_plseen.binds (ps := ["self", "edition"]) fun _ _ _ _ _ _ us hl => match us, hl with | [_, _], _ => rfl
  have F_plmoved := fun_mk (st := s_Place_moved) l_plmoved c_plmoved k_plmoved
  have b_plmoved := F_plmoved.binds (ps := ["self", "steps"]) fun _ _ _ _ _ _ us hl => match us, hl with | [_, _], _ => rfl
  have F_pladd := fun_mk (st := s_Place_add) l_pladd c_pladd k_pladd
  have b_pladd := F_pladd.binds (ps := ["self", "other"]) fun _ _ _ _ _ _ us hl => match us, hl with | [_, _], _ => rfl
  have F_plradd := fun_mk (st := s_Place_radd) l_plradd c_plradd k_plradd
  have b_plradd := F_plradd.binds (ps := ["self", "other"]) fun _ _ _ _ _ _ us hl => match us, hl with | [_, _], _ => rfl
  have F_plsub := fun_mk (st := s_Place_sub) l_plsub c_plsub k_plsub
  have b_plsub := F_plsub.binds (ps := ["self", "other"]) fun _ _ _ _ _ _ us hl => match us, hl with | [_, _], _ => rfl
  have F_rsize := fun_mk (st := s_require_size) l_rsize c_rsize k_rsize
  have b_rsize := F_rsize.binds (ps := ["size"]) fun _ _ _ _ _ _ us hl => match us, hl with | [_], _ => rfl
  have F_plfdiv := fun_mk (st := s_Place_floordiv) l_plfdiv c_plfdiv k_plfdiv
  have b_plfdiv := F_plfdiv.binds (ps := ["self", "other"]) fun _ _ _ _ _ _ us hl => match us, hl with | [_, _], _ => rfl
  have F_plmod := fun_mk (st := s_Place_mod) l_plmod c_plmod k_plmod
  have b_plmod := F_plmod.binds (ps := ["self", "other"]) fun _ _ _ _ _ _ us hl => match us, hl with | [_, _], _ => rfl
  have F_pllt := fun_mk (st := s_Place_lt) l_pllt c_pllt k_pllt
  have b_pllt := F_pllt.binds (ps := ["self", "other"]) fun _ _ _ _ _ _ us hl => match us, hl with | [_, _], _ => rfl
  have F_plle := fun_mk (st := s_Place_le) l_plle c_plle k_plle
  have b_plle := F_plle.binds (ps := ["self", "other"]) fun _ _ _ _ _ _ us hl => match us, hl with | [_, _], _ => rfl
  have F_plgt := fun_mk (st := s_Place_gt) l_plgt c_plgt k_plgt
  have b_plgt := F_plgt.binds (ps := ["self", "other"]) fun _ _ _ _ _ _ us hl => match us, hl with | [_, _], _ => rfl
  have F_plge := fun_mk (st := s_Place_ge) l_plge c_plge k_plge
  have b_plge := F_plge.binds (ps := ["self", "other"]) fun _ _ _ _ _ _ us hl => match us, hl with | [_, _], _ => rfl
  have F_pleq := fun_mk (st := s_Place_eq) l_pleq c_pleq k_pleq
  have b_pleq := F_pleq.binds (ps := ["self", "other"]) fun _ _ _ _ _ _ us hl => match us, hl with | [_, _], _ => rfl
  have F_base := fun_mk (st := s_base) l_base c_base k_base
  have b_base := F_base.binds (ps := ["_law_state", "_law_many"]) fun _ _ _ _ _ _ us hl => match us, hl with | [_, _], _ => rfl
  have F_edn := fun_mk (st := s_edition) l_edn c_edn k_edn
  have b_edn := F_edn.binds (ps := ["_law_base_here", "_law_rows", "_law_numbers"]) fun _ _ _ _ _ _ us hl => match us, hl with | [_, _, _], _ => rfl
  have F_spot := fun_mk (st := s_spot) l_spot c_spot k_spot
  have b_spot := F_spot.binds (ps := ["_law_state", "_law_made", "_law_size"]) fun _ _ _ _ _ _ us hl => match us, hl with | [_, _, _], _ => rfl
  have F_seenr := fun_mk (st := s_seen_right) l_seenr c_seenr k_seenr
  have b_seenr := F_seenr.binds (ps := ["_law_x", "_law_made"]) fun _ _ _ _ _ _ us hl => match us, hl with | [_, _], _ => rfl
  have F_movesr := fun_mk (st := s_moves_right) l_movesr c_movesr k_movesr
  have b_movesr := F_movesr.binds (ps := ["_law_state", "_law_x"]) fun _ _ _ _ _ _ us hl => match us, hl with | [_, _], _ => rfl
  have F_chainr := fun_mk (st := s_chain_right) l_chainr c_chainr k_chainr
  have b_chainr := F_chainr.binds (ps := ["_law_x", "_law_y", "_law_others"]) fun _ _ _ _ _ _ us hl => match us, hl with | [_, _, _], _ => rfl
  have F_law := fun_mk (st := s_law) l_law c_law k_law
  refine ⟨PySem.W.fnOf "law" "law" (defArgs s_law) (defBody s_law) (defScope s_law) .none kV_law dc_law pm_law an_law cd_law ct_law, fun s v => .of_eq rfl, fun base _ _ => ?_⟩
  have O_fresh : FnOk l.prog w K mg base CX0 1 f_fresh _ ["_law_script"] (spFresh K) := ok_fresh F_fresh T
  have D_fresh : DefOk l.prog w K mg base 1 "_law_fresh" f_fresh _ ["_law_script"] (spFresh K) := ⟨O_fresh, k_fresh, b_fresh, PySem.W.mg_of X G a_fresh⟩
  have O_fill : FnOk l.prog w K mg base CX0 1 f_fill _ ["_law_state"] spFill := ok_fill F_fill T
  have D_fill : DefOk l.prog w K mg base 1 "_law_fill" f_fill _ ["_law_state"] spFill := ⟨O_fill, k_fill, b_fill, PySem.W.mg_of X G a_fill⟩
  have O_take : FnOk l.prog w K mg base CX0 2 f_take _ ["_law_state", "_law_many"] spTake := ok_take F_take T D_fill
  have D_take : DefOk l.prog w K mg base 2 "_law_take" f_take _ ["_law_state", "_law_many"] spTake := ⟨O_take, k_take, b_take, PySem.W.mg_of X G a_take⟩
  have O_one : FnOk l.prog w K mg base CX0 3 f_one _ ["_law_state", "_law_things"] (spOne K) := ok_one F_one T D_take
  have D_one : DefOk l.prog w K mg base 3 "_law_one" f_one _ ["_law_state", "_law_things"] (spOne K) := ⟨O_one, k_one, b_one, PySem.W.mg_of X G a_one⟩
  have O_oneA : FnOk l.prog w K mg base CX0 3 f_one _ ["_law_state", "_law_things"] (spOneA K) := ok_oneA F_one T D_take
  have D_oneA : DefOk l.prog w K mg base 3 "_law_one" f_one _ ["_law_state", "_law_things"] (spOneA K) := ⟨O_oneA, k_one, b_one, PySem.W.mg_of X G a_one⟩
  have O_allw : FnOk l.prog w K mg base CX0 1 f_allw _ [] spAllW := ok_all_words F_allw T
  have D_all_words : DefOk l.prog w K mg base 1 "_law_all_words" f_allw _ [] spAllW := ⟨O_allw, k_allw, b_allw, PySem.W.mg_of X G a_allw⟩
  have O_somew : FnOk l.prog w K mg base CX0 3 f_somew _ ["_law_state", "_law_many"] spSomeW := ok_some_words F_somew T D_take D_all_words
  have D_some_words : DefOk l.prog w K mg base 3 "_law_some_words" f_somew _ ["_law_state", "_law_many"] spSomeW := ⟨O_somew, k_somew, b_somew, PySem.W.mg_of X G a_somew⟩
  have O_kept : FnOk l.prog w K mg base CX0 4 f_kept _ ["_law_state", "_law_many"] spKept := ok_kept F_kept T D_take D_one
  have D_kept : DefOk l.prog w K mg base 4 "_law_kept" f_kept _ ["_law_state", "_law_many"] spKept := ⟨O_kept, k_kept, b_kept, PySem.W.mg_of X G a_kept⟩
  have O_isnum : FnOk l.prog w K mg base CX0 1 f_isnum _ ["x"] spIsNum := ok_is_number F_isnum T
  have D_is_number : DefOk l.prog w K mg base 1 "is_number" f_isnum _ ["x"] spIsNum := ⟨O_isnum, k_isnum, b_isnum, PySem.W.mg_of X G a_isnum⟩
  have O_upto : FnOk l.prog w K mg base CX0 2 f_upto _ ["x", "most"] spUpTo := ok_is_up_to F_upto T D_is_number
  have D_is_up_to : DefOk l.prog w K mg base 2 "is_up_to" f_upto _ ["x", "most"] spUpTo := ⟨O_upto, k_upto, b_upto, PySem.W.mg_of X G a_upto⟩
  have O_isrow : FnOk l.prog w K mg base CX0 1 f_isrow _ ["x"] spIsRow := ok_is_row F_isrow T
  have D_is_row : DefOk l.prog w K mg base 1 "is_row" f_isrow _ ["x"] spIsRow := ⟨O_isrow, k_isrow, b_isrow, PySem.W.mg_of X G a_isrow⟩
  have O_isword : FnOk l.prog w K mg base CX0 1 f_isword _ ["x"] spIsWord := ok_is_word F_isword T TC
  have D_is_word : DefOk l.prog w K mg base 1 "is_word" f_isword _ ["x"] spIsWord := ⟨O_isword, k_isword, b_isword, PySem.W.mg_of X G a_isword⟩
  have O_wkinit : FnOk l.prog w K mg base CX0 2 f_wkinit _ ["self", "name", "passages"] (spWkInit C_Work) := ok_wk_init F_wkinit T WT D_is_word D_is_row
  have K_Work : ClsOk l.prog w K mg base 2 "Work" C_Work f_wkinit _ ["self", "name", "passages"] (spWkInit C_Work) := ⟨O_wkinit, b_wkinit, ⟨mk_Work, a_wkinit, i_wkinit, kc_Work⟩, cl_Work, mg_Work⟩
  have O_wklen : FnOk l.prog w K mg base CX0 1 f_wklen _ ["self"] (spWkLen C_Work) := ok_wk_len F_wklen T WT
  have M_Work_len : MetOk l.prog w K mg base 1 C_Work "__len__" f_wklen _ ["self"] (spWkLen C_Work) := ⟨O_wklen, b_wklen, ⟨a_wklen, i_wklen, k_wklen⟩, cl_Work⟩
  have O_wkin : FnOk l.prog w K mg base CX0 1 f_wkin _ ["self", "x"] (spWkIn C_Work) := ok_wk_in F_wkin T WT
  have M_Work_contains : MetOk l.prog w K mg base 1 C_Work "__contains__" f_wkin _ ["self", "x"] (spWkIn C_Work) := ⟨O_wkin, b_wkin, ⟨a_wkin, i_wkin, k_wkin⟩, cl_Work⟩
  have O_wkend : FnOk l.prog w K mg base CX0 2 f_wkend _ ["self", "word"] (spWkEnd C_Work) := ok_wk_end F_wkend T WT M_Work_contains
  have M_Work_end_of : MetOk l.prog w K mg base 2 C_Work "end_of" f_wkend _ ["self", "word"] (spWkEnd C_Work) := ⟨O_wkend, b_wkend, ⟨a_wkend, i_wkend, k_wkend⟩, cl_Work⟩
  have O_wkeq : FnOk l.prog w K mg base CX0 1 f_wkeq _ ["self", "other"] (spWkEq C_Work) := ok_wk_eq F_wkeq T WT TI
  have M_Work_eq : MetOk l.prog w K mg base 1 C_Work "__eq__" f_wkeq _ ["self", "other"] (spWkEq C_Work) := ⟨O_wkeq, b_wkeq, ⟨a_wkeq, i_wkeq, k_wkeq⟩, cl_Work⟩
  have O_cuts : FnOk l.prog w K mg base CX0 3 f_cuts _ ["work", "passages"] (spCuts C_Work) := ok_cuts F_cuts T D_is_row M_Work_end_of
  have D_cuts_behind : DefOk l.prog w K mg base 3 "cuts_behind" f_cuts _ ["work", "passages"] (spCuts C_Work) := ⟨O_cuts, k_cuts, b_cuts, PySem.W.mg_of X G a_cuts⟩
  have O_counts : FnOk l.prog w K mg base CX0 1 f_counts _ ["cuts", "length"] spCounts := ok_counts F_counts T
  have D_counts_at : DefOk l.prog w K mg base 1 "counts_at" f_counts _ ["cuts", "length"] spCounts := ⟨O_counts, k_counts, b_counts, PySem.W.mg_of X G a_counts⟩
  have O_edinit : FnOk l.prog w K mg base CX0 4 f_edinit _ ["self", "work", "passages"] (spEdInit C_Work C_Edition) := ok_ed_init F_edinit T ET D_cuts_behind D_counts_at M_Work_len
  have K_Edition : ClsOk l.prog w K mg base 4 "Edition" C_Edition f_edinit _ ["self", "work", "passages"] (spEdInit C_Work C_Edition) := ⟨O_edinit, b_edinit, ⟨mk_Edition, a_edinit, i_edinit, kc_Edition⟩, cl_Edition, mg_Edition⟩
  have O_edlen : FnOk l.prog w K mg base CX0 1 f_edlen _ ["self"] (spEdLen C_Work C_Edition) := ok_ed_len F_edlen T ET
  have M_Edition_len : MetOk l.prog w K mg base 1 C_Edition "__len__" f_edlen _ ["self"] (spEdLen C_Work C_Edition) := ⟨O_edlen, b_edlen, ⟨a_edlen, i_edlen, k_edlen⟩, cl_Edition⟩
  have O_rcount : FnOk l.prog w K mg base CX0 3 f_rcount _ ["count", "edition"] (spReqCount C_Work C_Edition) := ok_req_count F_rcount T D_is_up_to M_Edition_len
  have D_require_count : DefOk l.prog w K mg base 3 "require_count" f_rcount _ ["count", "edition"] (spReqCount C_Work C_Edition) := ⟨O_rcount, k_rcount, b_rcount, PySem.W.mg_of X G a_rcount⟩
  have O_rcut : FnOk l.prog w K mg base CX0 3 f_rcut _ ["cut", "work"] (spReqCut C_Work) := ok_req_cut F_rcut T D_is_up_to M_Work_len
  have D_require_cut : DefOk l.prog w K mg base 3 "require_cut" f_rcut _ ["cut", "work"] (spReqCut C_Work) := ⟨O_rcut, k_rcut, b_rcut, PySem.W.mg_of X G a_rcut⟩
  have O_cutb : FnOk l.prog w K mg base CX0 4 f_cutb _ ["self", "count"] (spCutB C_Work C_Edition) := ok_cutb F_cutb ET D_require_count
  have M_Edition_cut_behind : MetOk l.prog w K mg base 4 C_Edition "cut_behind" f_cutb _ ["self", "count"] (spCutB C_Work C_Edition) := ⟨O_cutb, b_cutb, ⟨a_cutb, i_cutb, k_cutb⟩, cl_Edition⟩
  have O_countat : FnOk l.prog w K mg base CX0 4 f_countat _ ["self", "cut"] (spCountAt C_Work C_Edition) := ok_count_at F_countat ET D_require_cut
  have M_Edition_count_at : MetOk l.prog w K mg base 4 C_Edition "count_at" f_countat _ ["self", "cut"] (spCountAt C_Work C_Edition) := ⟨O_countat, b_countat, ⟨a_countat, i_countat, k_countat⟩, cl_Edition⟩
  have O_kernel : FnOk l.prog w K mg base CX0 5 f_kernel _ ["self", "cut"] (spKernel C_Work C_Edition) := ok_kernel F_kernel M_Edition_cut_behind M_Edition_count_at
  have M_Edition_kernel : MetOk l.prog w K mg base 5 C_Edition "kernel" f_kernel _ ["self", "cut"] (spKernel C_Work C_Edition) := ⟨O_kernel, b_kernel, ⟨a_kernel, i_kernel, k_kernel⟩, cl_Edition⟩
  have O_onew : FnOk l.prog w K mg base CX0 3 f_onew _ ["one", "other"] (spOneW C_Work C_Edition) := ok_onew F_onew ET TN M_Work_eq
  have D_require_one_work : DefOk l.prog w K mg base 3 "require_one_work" f_onew _ ["one", "other"] (spOneW C_Work C_Edition) := ⟨O_onew, k_onew, b_onew, PySem.W.mg_of X G a_onew⟩
  have O_plinit : FnOk l.prog w K mg base CX0 4 f_plinit _ ["self", "edition", "count"] (spPlInit C_Work C_Edition C_Place) := ok_pl_init F_plinit PT D_require_count
  have K_Place : ClsOk l.prog w K mg base 4 "Place" C_Place f_plinit _ ["self", "edition", "count"] (spPlInit C_Work C_Edition C_Place) := ⟨O_plinit, b_plinit, ⟨mk_Place, a_plinit, i_plinit, kc_Place⟩, cl_Place, mg_Place⟩
  have O_plcut : FnOk l.prog w K mg base CX0 5 f_plcut _ ["self"] (spPlCut C_Work C_Edition C_Place) := ok_pl_cut F_plcut PT M_Edition_cut_behind
  have P_cut : PrpOk l.prog w K mg base 5 C_Place p_cut "cut" f_plcut _ ["self"] (spPlCut C_Work C_Edition C_Place) := ⟨O_plcut, b_plcut, ⟨y_cut1, y_cut2, y_cut3, ⟨_, y_cut4⟩⟩, cl_Place⟩
  have O_plseen : FnOk l.prog w K mg base CX0 7 f_plseen _ ["self", "edition"] (spSeen C_Work C_Edition C_Place) := ok_seen F_plseen PT D_require_one_work M_Edition_count_at P_cut K_Place
  have M_Place_seen : MetOk l.prog w K mg base 7 C_Place "seen" f_plseen _ ["self", "edition"] (spSeen C_Work C_Edition C_Place) := ⟨O_plseen, b_plseen, ⟨a_plseen, i_plseen, k_plseen⟩, cl_Place⟩
  have O_plmoved : FnOk l.prog w K mg base CX0 6 f_plmoved _ ["self", "steps"] (spMoved C_Work C_Edition C_Place id) := ok_moved F_plmoved TM PT M_Edition_len K_Place
  have M_Place_moved : MetOk l.prog w K mg base 6 C_Place "moved" f_plmoved _ ["self", "steps"] (spMoved C_Work C_Edition C_Place id) := ⟨O_plmoved, b_plmoved, ⟨a_plmoved, i_plmoved, k_plmoved⟩, cl_Place⟩
  have O_pladd : FnOk l.prog w K mg base CX0 7 f_pladd _ ["self", "other"] (spMoved C_Work C_Edition C_Place id) := ok_add F_pladd D_is_number M_Place_moved
  have M_Place_add : MetOk l.prog w K mg base 7 C_Place "__add__" f_pladd _ ["self", "other"] (spMoved C_Work C_Edition C_Place id) := ⟨O_pladd, b_pladd, ⟨a_pladd, i_pladd, k_pladd⟩, cl_Place⟩
  have O_plradd : FnOk l.prog w K mg base CX0 8 f_plradd _ ["self", "other"] (spMoved C_Work C_Edition C_Place id) := ok_radd F_plradd PO M_Place_add
  have M_Place_radd : MetOk l.prog w K mg base 8 C_Place "__radd__" f_plradd _ ["self", "other"] (spMoved C_Work C_Edition C_Place id) := ⟨O_plradd, b_plradd, ⟨a_plradd, i_plradd, k_plradd⟩, cl_Place⟩
  have O_plsub : FnOk l.prog w K mg base CX0 7 f_plsub _ ["self", "other"] (spDiff C_Work C_Edition C_Place) := ok_sub_pl F_plsub T PI PT D_require_one_work D_is_number M_Place_moved P_cut
  have M_Place_sub : MetOk l.prog w K mg base 7 C_Place "__sub__" f_plsub _ ["self", "other"] (spDiff C_Work C_Edition C_Place) := ⟨O_plsub, b_plsub, ⟨a_plsub, i_plsub, k_plsub⟩, cl_Place⟩
  have O_plsubI : FnOk l.prog w K mg base CX0 7 f_plsub _ ["self", "other"] (spMoved C_Work C_Edition C_Place fun i => -i) := ok_sub_int F_plsub T PI PT D_require_one_work D_is_number M_Place_moved P_cut
  have M_Place_subI : MetOk l.prog w K mg base 7 C_Place "__sub__" f_plsub _ ["self", "other"] (spMoved C_Work C_Edition C_Place fun i => -i) := ⟨O_plsubI, b_plsub, ⟨a_plsub, i_plsub, k_plsub⟩, cl_Place⟩
  have O_rsize : FnOk l.prog w K mg base CX0 1 f_rsize _ ["size"] spSize := ok_size F_rsize
  have D_require_size : DefOk l.prog w K mg base 1 "require_size" f_rsize _ ["size"] spSize := ⟨O_rsize, k_rsize, b_rsize, PySem.W.mg_of X G a_rsize⟩
  have O_plfdiv : FnOk l.prog w K mg base CX0 2 f_plfdiv _ ["self", "other"] (spDiv C_Work C_Edition C_Place Int.fdiv) := ok_fdiv F_plfdiv PT D_is_number D_require_size
  have M_Place_floordiv : MetOk l.prog w K mg base 2 C_Place "__floordiv__" f_plfdiv _ ["self", "other"] (spDiv C_Work C_Edition C_Place Int.fdiv) := ⟨O_plfdiv, b_plfdiv, ⟨a_plfdiv, i_plfdiv, k_plfdiv⟩, cl_Place⟩
  have O_plmod : FnOk l.prog w K mg base CX0 2 f_plmod _ ["self", "other"] (spDiv C_Work C_Edition C_Place Int.fmod) := ok_mod F_plmod PT D_is_number D_require_size
  have M_Place_mod : MetOk l.prog w K mg base 2 C_Place "__mod__" f_plmod _ ["self", "other"] (spDiv C_Work C_Edition C_Place Int.fmod) := ⟨O_plmod, b_plmod, ⟨a_plmod, i_plmod, k_plmod⟩, cl_Place⟩
  have O_pllt : FnOk l.prog w K mg base CX0 7 f_pllt _ ["self", "other"] (spOrd C_Work C_Edition C_Place (fun i j => decide (i < j))) := ok_pl_lt F_pllt PT D_require_one_work P_cut
  have M_Place_lt : MetOk l.prog w K mg base 7 C_Place "__lt__" f_pllt _ ["self", "other"] (spOrd C_Work C_Edition C_Place (fun i j => decide (i < j))) := ⟨O_pllt, b_pllt, ⟨a_pllt, i_pllt, k_pllt⟩, cl_Place⟩
  have O_plle : FnOk l.prog w K mg base CX0 7 f_plle _ ["self", "other"] (spOrd C_Work C_Edition C_Place (fun i j => decide (i ≤ j))) := ok_pl_le F_plle PT D_require_one_work P_cut
  have M_Place_le : MetOk l.prog w K mg base 7 C_Place "__le__" f_plle _ ["self", "other"] (spOrd C_Work C_Edition C_Place (fun i j => decide (i ≤ j))) := ⟨O_plle, b_plle, ⟨a_plle, i_plle, k_plle⟩, cl_Place⟩
  have O_plgt : FnOk l.prog w K mg base CX0 7 f_plgt _ ["self", "other"] (spOrd C_Work C_Edition C_Place (fun i j => decide (j < i))) := ok_pl_gt F_plgt PT D_require_one_work P_cut
  have M_Place_gt : MetOk l.prog w K mg base 7 C_Place "__gt__" f_plgt _ ["self", "other"] (spOrd C_Work C_Edition C_Place (fun i j => decide (j < i))) := ⟨O_plgt, b_plgt, ⟨a_plgt, i_plgt, k_plgt⟩, cl_Place⟩
  have O_plge : FnOk l.prog w K mg base CX0 7 f_plge _ ["self", "other"] (spOrd C_Work C_Edition C_Place (fun i j => decide (j ≤ i))) := ok_pl_ge F_plge PT D_require_one_work P_cut
  have M_Place_ge : MetOk l.prog w K mg base 7 C_Place "__ge__" f_plge _ ["self", "other"] (spOrd C_Work C_Edition C_Place (fun i j => decide (j ≤ i))) := ⟨O_plge, b_plge, ⟨a_plge, i_plge, k_plge⟩, cl_Place⟩
  have O_pleq : FnOk l.prog w K mg base CX0 7 f_pleq _ ["self", "other"] (spOrd C_Work C_Edition C_Place fun i j => decide (i = j)) := ok_pl_eq F_pleq T PI PT ET M_Work_eq P_cut
  have M_Place_eq : MetOk l.prog w K mg base 7 C_Place "__eq__" f_pleq _ ["self", "other"] (spOrd C_Work C_Edition C_Place fun i j => decide (i = j)) := ⟨O_pleq, b_pleq, ⟨a_pleq, i_pleq, k_pleq⟩, cl_Place⟩
  have O_base : FnOk l.prog w K mg base CX0 4 f_base _ ["_law_state", "_law_many"] (spBase C_Work) := ok_base F_base T D_some_words K_Work
  have D_base : DefOk l.prog w K mg base 4 "_law_base" f_base _ ["_law_state", "_law_many"] (spBase C_Work) := ⟨O_base, k_base, b_base, PySem.W.mg_of X G a_base⟩
  have O_edn : FnOk l.prog w K mg base CX0 6 f_edn _ ["_law_base_here", "_law_rows", "_law_numbers"] (spEdn C_Work C_Edition) := ok_edn F_edn K_Edition
  have D_edition : DefOk l.prog w K mg base 6 "_law_edition" f_edn _ ["_law_base_here", "_law_rows", "_law_numbers"] (spEdn C_Work C_Edition) := ⟨O_edn, k_edn, b_edn, PySem.W.mg_of X G a_edn⟩
  have O_spot : FnOk l.prog w K mg base CX0 6 f_spot _ ["_law_state", "_law_made", "_law_size"] (spSpot C_Work C_Edition C_Place) := ok_spot F_spot D_take D_oneA K_Place
  have D_spot : DefOk l.prog w K mg base 6 "_law_spot" f_spot _ ["_law_state", "_law_made", "_law_size"] (spSpot C_Work C_Edition C_Place) := ⟨O_spot, k_spot, b_spot, PySem.W.mg_of X G a_spot⟩
  have O_seenr : FnOk l.prog w K mg base CX0 8 f_seenr _ ["_law_x", "_law_made"] (spSeenR C_Work C_Edition C_Place) := ok_seen_right F_seenr TP PT M_Place_seen M_Place_le M_Place_lt M_Place_gt M_Place_eq M_Place_add M_Edition_len M_Edition_kernel P_cut
  have D_seen_right : DefOk l.prog w K mg base 8 "_law_seen_right" f_seenr _ ["_law_x", "_law_made"] (spSeenR C_Work C_Edition C_Place) := ⟨O_seenr, k_seenr, b_seenr, PySem.W.mg_of X G a_seenr⟩
  have O_movesr : FnOk l.prog w K mg base CX0 9 f_movesr _ ["_law_state", "_law_x"] (spMovesR C_Work C_Edition C_Place) := ok_moves_right F_movesr TP PT D_take M_Place_add M_Place_subI M_Place_radd M_Place_ge M_Place_floordiv M_Place_mod M_Edition_len
  have D_moves_right : DefOk l.prog w K mg base 9 "_law_moves_right" f_movesr _ ["_law_state", "_law_x"] (spMovesR C_Work C_Edition C_Place) := ⟨O_movesr, k_movesr, b_movesr, PySem.W.mg_of X G a_movesr⟩
  have O_chainr : FnOk l.prog w K mg base CX0 9 f_chainr _ ["_law_x", "_law_y", "_law_others"] (spChain C_Work C_Edition C_Place) := ok_chain_right F_chainr PT M_Place_seen D_seen_right M_Place_le M_Edition_kernel P_cut
  have D_chain_right : DefOk l.prog w K mg base 9 "_law_chain_right" f_chainr _ ["_law_x", "_law_y", "_law_others"] (spChain C_Work C_Edition C_Place) := ⟨O_chainr, k_chainr, b_chainr, PySem.W.mg_of X G a_chainr⟩
  exact ok_law F_law TP PT D_fresh D_take D_oneA D_base D_kept D_edition D_spot D_chain_right D_moves_right D_seen_right M_Place_seen M_Place_sub M_Place_lt M_Place_eq
theorem walk {l : PySem.W.OpenLaw} {q : Program} {loose : List Str} {XP : (Str → Option Value) → Heap → Prop} {YP : World → Heap → Prop} {d : DefRec} {K : Params → PySem.W.Frag} (hn : l.most = some 63) (hdf : d.params.defaults = [])
    (hY : ∀ (w : World) (h : Heap), YP w h → (K w.params).In h)
    (F : ∀ (w : World) (mg : Str → Option Value) (fa : Addr) (h : Heap), (K w.params).In h → h.Ns mainGlobals mg → mg d.name = some (.ref fa) →
      ∃ fd : FuncData, (∀ (s : Shared) (u : Value), BindsTo s fd ⟨[u], []⟩ [("_law_script", u)]) ∧ ∀ base : Heap, (K w.params).In base → base.Ns mainGlobals mg → FnOk l.prog w (K w.params) mg base CX0 10 fa fd ["_law_script"] (spLaw (K w.params))) :
    PySem.W.WalkO q loose XP YP l.row.toRowW d [] (fun f vs => PySem.call f vs) :=
  L2.walk_of (n := 63) (k := 10) (x := "_law_script") (CX := fun _ => CX0) (sp := fun w => spLaw (K w.params)) hn (by decide) hdf ⟨rfl, by decide, by decide⟩ hY F (fun _ _ a ns hl _ hS => ⟨a, ns, rfl, hS, hl, fun _ => rfl⟩) fun _ _ _ _ _ z => z
end Lm

open PySem PySem.W PyProof.Rows
set_option maxRecDepth 100000 in
set_option maxHeartbeats 0 in
theorem PySem.Challenge.cw_leafmarks_k12_whole_places_through_editi_holds : PySem.Challenge.rw_leafmarks_k12_whole_places_through_editi.Holds := by
  w_on; o_law; k_head; (case hw => w_witness2)
  k_fill
  refine Lm.walk (l := PySem.Challenge.rw_leafmarks_k12_whole_places_through_editi) rfl rfl (fun w h Y => PySem.W.kIn_of Y) ?F
  case F =>
    intro w mg fa h KX G hmg
    refine' Lm.all_mk KX G hmg ?a_Work ?pg_Work ?hd_Work ?po_Work ?sa_Work ?mk_Work ?kc_Work ?n_Work_name ?n_Work_words ?n_Work_ends ?ha_Work ?hn_Work ?htk_Work ?hm_Work ?ne_Work ?ob_Work ?a_Edition ?pg_Edition ?hd_Edition ?po_Edition ?sa_Edition ?mk_Edition ?kc_Edition ?n_Edition_work ?n_Edition_words ?n_Edition_cuts ?n_Edition_counts ?a_Place ?pg_Place ?hd_Place ?po_Place ?sa_Place ?mk_Place ?kc_Place ?n_Place_edition ?n_Place_count ?ha_Place ?hm_Place ?ty_Place ?sf_Place ?si_Place ?is_Place ?rsub_Place ?rfloordiv_Place ?rmod_Place ?jadd_Place ?jsub_Place ?jfloordiv_Place ?jmod_Place ?qadd_Place ?qsub_Place ?qfloordiv_Place ?qmod_Place ?zmin_Place ?a_fresh ?l_fresh ?c_fresh ?k_fresh ?a_fill ?l_fill ?c_fill ?k_fill ?a_take ?l_take ?c_take ?k_take ?a_one ?l_one ?c_one ?k_one ?a_allw ?l_allw ?c_allw ?k_allw ?a_somew ?l_somew ?c_somew ?k_somew ?a_kept ?l_kept ?c_kept ?k_kept ?a_isnum ?l_isnum ?c_isnum ?k_isnum ?a_upto ?l_upto ?c_upto ?k_upto ?a_isrow ?l_isrow ?c_isrow ?k_isrow ?a_isword ?l_isword ?c_isword ?k_isword ?a_wkinit ?i_wkinit ?l_wkinit ?c_wkinit ?k_wkinit ?a_wklen ?i_wklen ?l_wklen ?c_wklen ?k_wklen ?a_wkin ?i_wkin ?l_wkin ?c_wkin ?k_wkin ?a_wkend ?i_wkend ?l_wkend ?c_wkend ?k_wkend ?a_wkeq ?i_wkeq ?l_wkeq ?c_wkeq ?k_wkeq ?a_cuts ?l_cuts ?c_cuts ?k_cuts ?a_counts ?l_counts ?c_counts ?k_counts ?a_edinit ?i_edinit ?l_edinit ?c_edinit ?k_edinit ?a_edlen ?i_edlen ?l_edlen ?c_edlen ?k_edlen ?a_rcount ?l_rcount ?c_rcount ?k_rcount ?a_rcut ?l_rcut ?c_rcut ?k_rcut ?a_cutb ?i_cutb ?l_cutb ?c_cutb ?k_cutb ?a_countat ?i_countat ?l_countat ?c_countat ?k_countat ?a_kernel ?i_kernel ?l_kernel ?c_kernel ?k_kernel ?a_onew ?l_onew ?c_onew ?k_onew ?a_plinit ?i_plinit ?l_plinit ?c_plinit ?k_plinit ?y_cut1 ?y_cut2 ?y_cut3 ?y_cut4 ?l_plcut ?c_plcut ?k_plcut ?a_plseen ?i_plseen ?l_plseen ?c_plseen ?k_plseen ?a_plmoved ?i_plmoved ?l_plmoved ?c_plmoved ?k_plmoved ?a_pladd ?i_pladd ?l_pladd ?c_pladd ?k_pladd ?a_plradd ?i_plradd ?l_plradd ?c_plradd ?k_plradd ?a_plsub ?i_plsub ?l_plsub ?c_plsub ?k_plsub ?a_rsize ?l_rsize ?c_rsize ?k_rsize ?a_plfdiv ?i_plfdiv ?l_plfdiv ?c_plfdiv ?k_plfdiv ?a_plmod ?i_plmod ?l_plmod ?c_plmod ?k_plmod ?a_pllt ?i_pllt ?l_pllt ?c_pllt ?k_pllt ?a_plle ?i_plle ?l_plle ?c_plle ?k_plle ?a_plgt ?i_plgt ?l_plgt ?c_plgt ?k_plgt ?a_plge ?i_plge ?l_plge ?c_plge ?k_plge ?a_pleq ?i_pleq ?l_pleq ?c_pleq ?k_pleq ?a_base ?l_base ?c_base ?k_base ?a_edn ?l_edn ?c_edn ?k_edn ?a_spot ?l_spot ?c_spot ?k_spot ?a_seenr ?l_seenr ?c_seenr ?k_seenr ?a_movesr ?l_movesr ?c_movesr ?k_movesr ?a_chainr ?l_chainr ?c_chainr ?k_chainr ?a_law ?l_law ?c_law ?k_law ?g_LETTERS ?g_LONGEST_WORD ?z_len ?z_int ?z_range ?z_enumerate ?z_isinstance ?z_list ?z_tuple ?z_str ?z_bool ?z_all ?z_max ?z_zip
    (case a_Work => k_is)
    (case pg_Work => k_is)
    (case hd_Work => k_is)
    (case po_Work => k_is)
    (case sa_Work => k_is)
    (case mk_Work => k_is)
    (case kc_Work => k_is)
    (case n_Work_name => k_is)
    (case n_Work_words => k_is)
    (case n_Work_ends => k_is)
    (case ha_Work => k_is)
    (case hn_Work => k_is)
    (case htk_Work => k_is)
    (case hm_Work => k_is)
    (case ne_Work => k_is)
    (case ob_Work => k_is)
    (case a_Edition => k_is)
    (case pg_Edition => k_is)
    (case hd_Edition => k_is)
    (case po_Edition => k_is)
    (case sa_Edition => k_is)
    (case mk_Edition => k_is)
    (case kc_Edition => k_is)
    (case n_Edition_work => k_is)
    (case n_Edition_words => k_is)
    (case n_Edition_cuts => k_is)
    (case n_Edition_counts => k_is)
    (case a_Place => k_is)
    (case pg_Place => k_is)
    (case hd_Place => k_is)
    (case po_Place => k_is)
    (case sa_Place => k_is)
    (case mk_Place => k_is)
    (case kc_Place => k_is)
    (case n_Place_edition => k_is)
    (case n_Place_count => k_is)
    (case ha_Place => k_is)
    (case hm_Place => k_is)
    (case ty_Place => k_is)
    (case sf_Place => k_is)
    (case si_Place => k_is)
    (case is_Place => k_is)
    (case rsub_Place => k_is)
    (case rfloordiv_Place => k_is)
    (case rmod_Place => k_is)
    (case jadd_Place => k_is)
    (case jsub_Place => k_is)
    (case jfloordiv_Place => k_is)
    (case jmod_Place => k_is)
    (case qadd_Place => k_is)
    (case qsub_Place => k_is)
    (case qfloordiv_Place => k_is)
    (case qmod_Place => k_is)
    (case zmin_Place => k_is)
    (case a_fresh => k_is)
    (case l_fresh => k_is)
    (case c_fresh => k_is)
    (case k_fresh => k_is)
    (case a_fill => k_is)
    (case l_fill => k_is)
    (case c_fill => k_is)
    (case k_fill => k_is)
    (case a_take => k_is)
    (case l_take => k_is)
    (case c_take => k_is)
    (case k_take => k_is)
    (case a_one => k_is)
    (case l_one => k_is)
    (case c_one => k_is)
    (case k_one => k_is)
    (case a_allw => k_is)
    (case l_allw => k_is)
    (case c_allw => k_is)
    (case k_allw => k_is)
    (case a_somew => k_is)
    (case l_somew => k_is)
    (case c_somew => k_is)
    (case k_somew => k_is)
    (case a_kept => k_is)
    (case l_kept => k_is)
    (case c_kept => k_is)
    (case k_kept => k_is)
    (case a_isnum => k_is)
    (case l_isnum => k_is)
    (case c_isnum => k_is)
    (case k_isnum => k_is)
    (case a_upto => k_is)
    (case l_upto => k_is)
    (case c_upto => k_is)
    (case k_upto => k_is)
    (case a_isrow => k_is)
    (case l_isrow => k_is)
    (case c_isrow => k_is)
    (case k_isrow => k_is)
    (case a_isword => k_is)
    (case l_isword => k_is)
    (case c_isword => k_is)
    (case k_isword => k_is)
    (case a_wkinit => k_is)
    (case i_wkinit => k_is)
    (case l_wkinit => k_is)
    (case c_wkinit => k_is)
    (case k_wkinit => k_is)
    (case a_wklen => k_is)
    (case i_wklen => k_is)
    (case l_wklen => k_is)
    (case c_wklen => k_is)
    (case k_wklen => k_is)
    (case a_wkin => k_is)
    (case i_wkin => k_is)
    (case l_wkin => k_is)
    (case c_wkin => k_is)
    (case k_wkin => k_is)
    (case a_wkend => k_is)
    (case i_wkend => k_is)
    (case l_wkend => k_is)
    (case c_wkend => k_is)
    (case k_wkend => k_is)
    (case a_wkeq => k_is)
    (case i_wkeq => k_is)
    (case l_wkeq => k_is)
    (case c_wkeq => k_is)
    (case k_wkeq => k_is)
    (case a_cuts => k_is)
    (case l_cuts => k_is)
    (case c_cuts => k_is)
    (case k_cuts => k_is)
    (case a_counts => k_is)
    (case l_counts => k_is)
    (case c_counts => k_is)
    (case k_counts => k_is)
    (case a_edinit => k_is)
    (case i_edinit => k_is)
    (case l_edinit => k_is)
    (case c_edinit => k_is)
    (case k_edinit => k_is)
    (case a_edlen => k_is)
    (case i_edlen => k_is)
    (case l_edlen => k_is)
    (case c_edlen => k_is)
    (case k_edlen => k_is)
    (case a_rcount => k_is)
    (case l_rcount => k_is)
    (case c_rcount => k_is)
    (case k_rcount => k_is)
    (case a_rcut => k_is)
    (case l_rcut => k_is)
    (case c_rcut => k_is)
    (case k_rcut => k_is)
    (case a_cutb => k_is)
    (case i_cutb => k_is)
    (case l_cutb => k_is)
    (case c_cutb => k_is)
    (case k_cutb => k_is)
    (case a_countat => k_is)
    (case i_countat => k_is)
    (case l_countat => k_is)
    (case c_countat => k_is)
    (case k_countat => k_is)
    (case a_kernel => k_is)
    (case i_kernel => k_is)
    (case l_kernel => k_is)
    (case c_kernel => k_is)
    (case k_kernel => k_is)
    (case a_onew => k_is)
    (case l_onew => k_is)
    (case c_onew => k_is)
    (case k_onew => k_is)
    (case a_plinit => k_is)
    (case i_plinit => k_is)
    (case l_plinit => k_is)
    (case c_plinit => k_is)
    (case k_plinit => k_is)
    (case y_cut1 => k_is)
    (case y_cut2 => k_is)
    (case y_cut3 => k_is)
    (case y_cut4 => k_is)
    (case l_plcut => k_is)
    (case c_plcut => k_is)
    (case k_plcut => k_is)
    (case a_plseen => k_is)
    (case i_plseen => k_is)
    (case l_plseen => k_is)
    (case c_plseen => k_is)
    (case k_plseen => k_is)
    (case a_plmoved => k_is)
    (case i_plmoved => k_is)
    (case l_plmoved => k_is)
    (case c_plmoved => k_is)
    (case k_plmoved => k_is)
    (case a_pladd => k_is)
    (case i_pladd => k_is)
    (case l_pladd => k_is)
    (case c_pladd => k_is)
    (case k_pladd => k_is)
    (case a_plradd => k_is)
    (case i_plradd => k_is)
    (case l_plradd => k_is)
    (case c_plradd => k_is)
    (case k_plradd => k_is)
    (case a_plsub => k_is)
    (case i_plsub => k_is)
    (case l_plsub => k_is)
    (case c_plsub => k_is)
    (case k_plsub => k_is)
    (case a_rsize => k_is)
    (case l_rsize => k_is)
    (case c_rsize => k_is)
    (case k_rsize => k_is)
    (case a_plfdiv => k_is)
    (case i_plfdiv => k_is)
    (case l_plfdiv => k_is)
    (case c_plfdiv => k_is)
    (case k_plfdiv => k_is)
    (case a_plmod => k_is)
    (case i_plmod => k_is)
    (case l_plmod => k_is)
    (case c_plmod => k_is)
    (case k_plmod => k_is)
    (case a_pllt => k_is)
    (case i_pllt => k_is)
    (case l_pllt => k_is)
    (case c_pllt => k_is)
    (case k_pllt => k_is)
    (case a_plle => k_is)
    (case i_plle => k_is)
    (case l_plle => k_is)
    (case c_plle => k_is)
    (case k_plle => k_is)
    (case a_plgt => k_is)
    (case i_plgt => k_is)
    (case l_plgt => k_is)
    (case c_plgt => k_is)
    (case k_plgt => k_is)
    (case a_plge => k_is)
    (case i_plge => k_is)
    (case l_plge => k_is)
    (case c_plge => k_is)
    (case k_plge => k_is)
    (case a_pleq => k_is)
    (case i_pleq => k_is)
    (case l_pleq => k_is)
    (case c_pleq => k_is)
    (case k_pleq => k_is)
    (case a_base => k_is)
    (case l_base => k_is)
    (case c_base => k_is)
    (case k_base => k_is)
    (case a_edn => k_is)
    (case l_edn => k_is)
    (case c_edn => k_is)
    (case k_edn => k_is)
    (case a_spot => k_is)
    (case l_spot => k_is)
    (case c_spot => k_is)
    (case k_spot => k_is)
    (case a_seenr => k_is)
    (case l_seenr => k_is)
    (case c_seenr => k_is)
    (case k_seenr => k_is)
    (case a_movesr => k_is)
    (case l_movesr => k_is)
    (case c_movesr => k_is)
    (case k_movesr => k_is)
    (case a_chainr => k_is)
    (case l_chainr => k_is)
    (case c_chainr => k_is)
    (case k_chainr => k_is)
    (case a_law => k_is)
    (case l_law => k_is)
    (case c_law => k_is)
    (case k_law => k_is)
    (case g_LETTERS => k_is)
    (case g_LONGEST_WORD => k_is)
    (case z_len => k_is)
    (case z_int => k_is)
    (case z_range => k_is)
    (case z_enumerate => k_is)
    (case z_isinstance => k_is)
    (case z_list => k_is)
    (case z_tuple => k_is)
    (case z_str => k_is)
    (case z_bool => k_is)
    (case z_all => k_is)
    (case z_max => k_is)
    (case z_zip => k_is)
