import PyProof.Rows.All
import Wide.All
import OpenK.AllK
import Wide.FinOn
import PyProof.EqKinds
import HandS.ForMost
import HandS.IsInst
import HandS.OwnEq
import PyProof.InstNe
import PyProof.Draws
import KE.GoesEnum
import KE.GoesMore
import KE.KOpsOwn
import HandS.Walk
import HandS.Conv
import HandS.Evl
import HandS.Zip
import HandS.Property
import HandS.MakeKwOnly
import HandS.Style
import HandS.WordsExc
import HandS.ExcOwn
import HandS.TryOnly
import HandS.TupMul
import HandS.ExcInit
import HandS.ExcField
import HandS.DictComp
import KE.KCallOwn
import PySem.Challenge.RW_leafmarks_k13_walks_called
set_option Elab.async false
set_option linter.all false
set_option maxRecDepth 100000
set_option maxHeartbeats 16000000
namespace Lm
open PySem L2
section
variable {X : Cx} {CX : CXT} {k : Nat} {f C : Addr} {fd : FuncData} {ps : List Str} {sp : Sp} {E : XK} {pins : List (Addr × Obj)} {σ : St} {H : Hp} {s : Shared}
/-- the callee runs under another around of the same frames -/
theorem run_in {A : Around} {Q : VK} {us : List Value} {vs : List V} (F : FnOk X.prog X.w X.K X.mg X.base CX k f fd ps sp) (hr : Room k A) (e0 : Env0 X.prog X.w X.K X.mg X.base A X.stack s H) (hb : Binds X.K fd ps [])
    (hx : Passes CX X E) (I : Inv X pins σ H s) (r : Vals vs us) (h : sp vs H Q E) : wpAny (model X.prog X.w) A (call (.ref f) us) (EP X pins σ Q) X.xe s := by
  have hl : us.length = ps.length := by rw [← r.length]; exact F.len _ _ _ _ h
  have hb' : BindsTo s fd ⟨us, []⟩ (ps.zip us) := by
    have := hb s us I.kIn (by simpa using hl)
    simpa using this
  refine wpAny_call (codeAny_mono (F.run A X.stack s H ⟨us, []⟩ us vs Q E hr e0 hb' r h) fun r s' hq => ?_)
  cases r with
  | error e => exact hx pins σ H s e s' I hq
  | ok fl =>
    cases fl with
    | ret u => exact I.after hq
    | next => exact False.elim hq
    | brk => exact False.elim hq
    | cont => exact False.elim hq
/-- len(x), x an instance with its own __len__ -/
def rLenOwn (C : Addr) (sp : Sp) (E : XK) : List V → Hp → VK → Prop := fun xs H Q => ∃ a dx fs, xs = [.ref a] ∧ H a = some (.ins C dx fs) ∧
  sp [.ref a] H (fun z H' => ∃ n : Nat, z = .int n ∧ n < 2 ^ 62 ∧ Q (.int n) H') E
theorem call_lenOwn (F : FnOk X.prog X.w X.K X.mg X.base CX k f fd ps sp) (hs : PySem.W.findIn X.K (.ref C) "__len__" = some (some (.ref f))) (hf : PySem.W.isFn X.K (.ref f) = true) (hb : Binds X.K fd ps []) (hr : Room (k + 1) X.A) (hx : Passes CX X E) :
    CallR X (.builtin "len") (rLenOwn C sp E) := by
  intro pins s σ H xs us Q I r h
  obtain ⟨a, dx, fs, rfl, ha, q⟩ := h
  obtain ⟨u, rfl, ru⟩ := r.one
  cases (show u = Value.ref a from ru)
  obtain ⟨mA, J, _⟩ := ins_get I.hok ha
  obtain ⟨od, J, _⟩ := J.look
  obtain ⟨m, hF⟩ := I.fr
  refine PySem.W.len_K hF I.ok.mod.kin J hs hf (wpAny_mono (run_in (us := [.ref a]) (vs := [.ref a]) F hr.in1 I.env0.in1 hb hx I (.cons rfl .nil) q) (fun w s' z => ?_) fun _ _ x => x)
  obtain ⟨z', H', I', rz, n, ez, hn, qz⟩ := z
  subst ez
  obtain ⟨t, e⟩ := (show ∃ t, w = Value.int n t from rz)
  subst e
  refine ⟨⟨by omega, by omega⟩, .int n, H', I'.tok _, ⟨_, rfl⟩, qz⟩
/-- x in y, y an instance with its own __contains__ -/
def rInOwn (C : Addr) (sp : Sp) (E : XK) (neg : Bool) : R2 := fun x y H Q => ∃ a dx fs, y = .ref a ∧ H a = some (.ins C dx fs) ∧
  sp [y, x] H (fun z H' => ∃ b : Bool, z = .bl b ∧ Q (.bl (if neg then !b else b)) H') E
theorem op_inOwn (F : FnOk X.prog X.w X.K X.mg X.base CX k f fd ps sp) (hs : PySem.W.findIn X.K (.ref C) "__contains__" = some (some (.ref f))) (hf : PySem.W.isFn X.K (.ref f) = true) (hb : Binds X.K fd ps []) (hr : Room k X.A) (hx : Passes CX X E) :
    OpR X (compareOp .In) (rInOwn C sp E false) := by
  intro pins s σ H x y v u Q I rx ry h
  obtain ⟨a, dx, fs, rfl, ha, q⟩ := h
  cases (show u = Value.ref a from ry)
  obtain ⟨mA, J, _⟩ := ins_get I.hok ha
  obtain ⟨od, J, _⟩ := J.look
  obtain ⟨m, hF⟩ := I.fr
  refine PySem.W.in_K hF I.ok.mod.kin J hs hf (wpAny_mono (run_in (us := [.ref a, v]) (vs := [.ref a, x]) F hr I.env0 hb hx I (.cons rfl (.cons rx .nil)) q) (fun w s' z => ?_) fun _ _ x => x)
  obtain ⟨z', H', I', rz, b, ez, qz⟩ := z
  subst ez
  cases (show w = Value.bool b from rz)
  exact wpAny_truthy_bool ⟨.bl _, H', I', rfl, qz⟩
theorem op_notInOwn (F : FnOk X.prog X.w X.K X.mg X.base CX k f fd ps sp) (hs : PySem.W.findIn X.K (.ref C) "__contains__" = some (some (.ref f))) (hf : PySem.W.isFn X.K (.ref f) = true) (hb : Binds X.K fd ps []) (hr : Room k X.A) (hx : Passes CX X E) :
    OpR X (compareOp .NotIn) (rInOwn C sp E true) := by
  intro pins s σ H x y v u Q I rx ry h
  obtain ⟨a, dx, fs, rfl, ha, q⟩ := h
  cases (show u = Value.ref a from ry)
  obtain ⟨mA, J, _⟩ := ins_get I.hok ha
  obtain ⟨od, J, _⟩ := J.look
  obtain ⟨m, hF⟩ := I.fr
  refine PySem.W.notIn_K hF I.ok.mod.kin J hs hf (wpAny_mono (run_in (us := [.ref a, v]) (vs := [.ref a, x]) F hr I.env0 hb hx I (.cons rfl (.cons rx .nil)) q) (fun w s' z => ?_) fun _ _ x => x)
  obtain ⟨z', H', I', rz, b, ez, qz⟩ := z
  subst ez
  cases (show w = Value.bool b from rz)
  exact wpAny_truthy_bool ⟨.bl _, H', I', rfl, qz⟩
theorem cmpBack {P : Value → Shared → Prop} {z : V} {v : Value} {s' : Shared} (r : RelV z v) (h : P v s') : PySem.W.CmpBack P v s' := by
  cases z with
  | non => cases (show v = Value.none from r); exact h
  | bl b => cases (show v = Value.bool b from r); exact h
  | int i => obtain ⟨t, e⟩ := (show ∃ t, v = Value.int i t from r); cases e; exact h
  | str i => obtain ⟨t, e⟩ := (show ∃ t, v = Value.str i t from r); cases e; exact h
  | byt i => obtain ⟨t, e⟩ := (show ∃ t, v = Value.bytes i t from r); cases e; exact h
  | flt i => obtain ⟨t, e⟩ := (show ∃ t, v = Value.float i t from r); cases e; exact h
  | ref a => cases (show v = Value.ref a from r); exact h
  | ty n => cases (show v = Value.type n from r); exact h
/-- x op y, both instances of the class at C that has its own def for it -/
def rBinOwn (C : Addr) (sp : Sp) (E : XK) : R2 := fun x y H Q => ∃ a dx fs b dy gs, x = .ref a ∧ y = .ref b ∧ H a = some (.ins C dx fs) ∧ H b = some (.ins C dy gs) ∧ sp [x, y] H Q E
theorem op_binOwn {op : Operator} (F : FnOk X.prog X.w X.K X.mg X.base CX k f fd ps sp) (hc : PySem.W.selfFirst X.K C = true) (hs : PySem.W.findIn X.K (.ref C) (PySem.dunder op.info.2) = some (some (.ref f))) (hf : PySem.W.isFn X.K (.ref f) = true) (hb : Binds X.K fd ps []) (hr : Room k X.A) (hx : Passes CX X E) :
    OpR X (binaryOp op) (rBinOwn C sp E) := by
  intro pins s σ H x y v u Q I rx ry h
  obtain ⟨a, dx, fs, b, dy, gs, rfl, rfl, ha, hb', q⟩ := h
  cases (show v = Value.ref a from rx)
  cases (show u = Value.ref b from ry)
  obtain ⟨mA, J, _⟩ := ins_get I.hok ha
  obtain ⟨mB, J', _⟩ := ins_get I.hok hb'
  obtain ⟨od, J, _⟩ := J.look
  obtain ⟨od', J', _⟩ := J'.look
  obtain ⟨m, hF⟩ := I.fr
  refine PySem.W.binop_K hF I.ok.mod.kin J J'.type hc hs hf (wpAny_mono (run_in (us := [.ref a, .ref b]) (vs := [.ref a, .ref b]) F hr I.env0 hb hx I (.cons rfl (.cons rfl .nil)) q) (fun w s' z => ?_) fun _ _ x => x)
  obtain ⟨z', H', I', rz, qz⟩ := z
  exact cmpBack rz ⟨z', H', I', rz, qz⟩
theorem op_cmpOwn {op : CmpOp} (hop : ∀ a b, compareOp op a b = richCompare op a b) (F : FnOk X.prog X.w X.K X.mg X.base CX k f fd ps sp) (hs : PySem.W.findIn X.K (.ref C) (cmpInfo op).2.1 = some (some (.ref f))) (hf : PySem.W.isFn X.K (.ref f) = true) (hb : Binds X.K fd ps []) (hr : Room k X.A) (hx : Passes CX X E) :
    OpR X (compareOp op) (rBinOwn C sp E) := by
  intro pins s σ H x y v u Q I rx ry h
  obtain ⟨a, dx, fs, b, dy, gs, rfl, rfl, ha, hb', q⟩ := h
  cases (show v = Value.ref a from rx)
  cases (show u = Value.ref b from ry)
  obtain ⟨mA, J, _⟩ := ins_get I.hok ha
  obtain ⟨mB, J', _⟩ := ins_get I.hok hb'
  obtain ⟨od, J, _⟩ := J.look
  obtain ⟨od', J', _⟩ := J'.look
  obtain ⟨m, hF⟩ := I.fr
  rw [hop]
  refine PySem.W.cmp_K (op := op) (tb := .ref C) hr.units0 hF I.ok.mod.kin J J'.type (by simp [PySem.W.notFirst]) hs hf (wpAny_mono (run_in (us := [.ref a, .ref b]) (vs := [.ref a, .ref b]) F hr I.env0 hb hx I (.cons rfl (.cons rfl .nil)) q) (fun w s' z => ?_) fun _ _ x => x)
  obtain ⟨z', H', I', rz, qz⟩ := z
  exact cmpBack rz ⟨z', H', I', rz, qz⟩
end
end Lm

namespace Lm
open PySem PySem.W PySem.Calls PyProof.Rows
section
variable {prog : Program} {w : World} {A : Around} {E : Value → Shared → Prop} {s : Shared} {K : Frag} {x C L f : Addr} {h₀ : Heap} {m : Str → Option Value} {ox : Obj} {od : Option Obj} {b tb : Value}
/-- != of an instance whose class has an own == and no own != -/
theorem ne_own {Q : Value → Shared → Prop} (hu : A.units + 1 < cLine) (Fr' : Fr h₀ L s.heap m) (X₀ : K.In h₀) (I : InstAt s.heap x ox C od) (hb : Looks (model prog w) s.heap (typeOf b) tb) (hn : notFirst K C tb = true)
    (hne : findIn K (.ref C) "__ne__" = some (some (.builtin "object.__ne__"))) (hobj : subIn K (.ref C) (.type "object") = some true)
    (hs : findIn K (.ref C) "__eq__" = some (some (.ref f))) (hf : isFn K (.ref f) = true)
    (h : wpAny (model prog w) A.in1 (call (.ref f) [.ref x, b]) (fun v s' => ∃ k, v = .bool k ∧ Q (.bool (!k)) s') E s) : wpAny (model prog w) A (richCompare .NotEq (.ref x) b) Q E s := by
  have X := X₀.keeps Fr'.keep
  have fin : ∀ (Q' : Option Value → Shared → Prop), (∀ k s', Q (.bool (!k)) s' → Q' (some (.bool (!k))) s') →
      wpAny (model prog w) A (call (.builtin "object.__ne__") ([.ref x] ++ [b]) >>= fun v => pure (some v)) Q' E s := by
    intro Q' hQ
    refine wpAny_bind (wpAny_call (codeAny_call_builtin PySem.F.cmp_object.ne.plain PySem.F.cmpEntry_ne ?_))
    refine @check_slot (model prog w) _ _ _ "object.__ne__" "object" "__ne__" (.ref x) [b] [] _ PySem.F.cmpKind_ne PySem.F.cmpSplit_ne (I.type.andThen (looks_subIn X hobj)) (PySem.F.cmpArgs_ne _ _) ?_
    unfold Builtin.«object.__ne__»
    repeat (first
      | with_reducible refine wpAny_cRoomFor hu ?_
      | (refine wpAny_bind (m := callSpecialIfBound? (.ref x) (Str.ofString "__eq__") [b])
          (ifBound_K X I hs hf (wpAny_mono h (fun r s' hr => by
            obtain ⟨k, rfl, hq⟩ := hr
            repeat (first | exact ⟨_, rfl, wpAny_pure (hQ k s' hq)⟩ | exact wpAny_pure (hQ k s' hq) | exact hQ k s' hq | exact wpAny_truthy_bool (hQ k s' hq) | (refine wpAny_bind (m := truthy (.bool _)) (wpAny_truthy_bool ?_)) | wp_step)) fun _ _ e => e)))
      | wp_step)
  have one : wpAny (model prog w) A (tryCompare (.ref x) "__ne__" b) (fun r s' => ∃ v, r = some v ∧ Q v s') E s := by
    simp only [tryCompare]
    refine wpAny_bind ?_
    simp only [callSpecialIfBound?, bindSpecialIfBound?]
    refine wpAny_holding (wpAny_bind (wpAny_bind (wpAny_bind (I.type.here ((looks_findIn X hne).here ?_)))))
    refine wpAny_bind (wpAny_askSetting (wpAny_ite ?_))
    split
    · refine wpAny_bind ?_
      rw [PySem.F.cmp_object.ne.bind]
      refine wpAny_pure (wpAny_pure ?_)
      show wpAny _ _ (call _ _ >>= fun v => pure (some v)) _ _ _
      exact fin _ fun k s' q => wpAny_pure ⟨_, rfl, q⟩
    · refine wpAny_tryCatch (wpAny_bind ?_)
      rw [PySem.F.cmp_object.ne.bind]
      refine wpAny_pure (wpAny_pure ?_)
      show wpAny _ _ (call _ _ >>= fun v => pure (some v)) _ _ _
      exact fin _ fun k s' q => wpAny_pure ⟨_, rfl, q⟩
  unfold richCompare
  simp only [oneThing_ref]
  refine wpAny_holding (wpAny_bind (wpAny_cRoomFor (Nat.lt_of_succ_lt hu) ?_))
  refine wpAny_bind (I.type.here (wpAny_bind (hb.here ?_)))
  split
  · rename_i q
    have e : subIn K tb (.ref C) = some false := by
      rcases Bool.or_eq_true_iff.mp hn with e | e
      · rw [beq_iff_eq.mp e] at q; simp at q
      · exact beq_iff_eq.mp e
    refine wpAny_bind ((looks_subIn X e).here ?_)
    simp only [Bool.false_eq_true, if_false]
    refine wpAny_bind (wpAny_mono one (fun r s' z => ?_) fun _ _ e => e)
    obtain ⟨v, rfl, hq⟩ := z
    exact wpAny_pure hq
  · refine wpAny_bind (wpAny_pure ?_)
    simp only [Bool.false_eq_true, if_false]
    refine wpAny_bind (wpAny_mono one (fun r s' z => ?_) fun _ _ e => e)
    obtain ⟨v, rfl, hq⟩ := z
    exact wpAny_pure hq
end
end Lm

namespace Lm
open PySem PySem.W PySem.Calls PyProof.Rows Builtin
theorem meets_enum1 {v : Value} {o : Obj} {H : Heap → Prop} (B : Begins v o H) :
    Meets (Builtin.«enumerate.__new__» ⟨[.type "enumerate", v], []⟩) (fun _ R s => H s.heap ∧
      R (.ok (.ret (.ref (s.heap.push o).objs.size))) { s with heap := (s.heap.push o).push { cls := .type "enumerate", data := .fields #[.none, .bool false, .ref s.heap.objs.size, rawInt 0, .none, .none] } }) :=
  .of_wp fun prog w A R s ⟨h1, h⟩ => by
    obtain ⟨hp, g, d, tk, os⟩ := s
    have hsub := sub_enumerate
    have q1 : ∀ {A' : Around} {E : Value → Shared → Prop} {Q : Value → Shared → Prop}, Q (.ref hp.objs.size) ⟨hp.push o, g, d, tk, os⟩ → wpAny (model prog w) A' (pyIter v) Q E ⟨hp, g, d, tk, os⟩ :=
      fun q => B.iter prog w _ _ ⟨hp, g, d, tk, os⟩ _ h1 q
    wp_walk using q1
    refine wpAny_stack_any fun st => wpAny_pure ?_
    split
    · rename_i c _ _ _ _ _
      cases (c == Value.type "enumerate")
      · wp_walk using q1
        exact ⟨_, rfl, h⟩
      · wp_walk using q1
        exact ⟨_, rfl, h⟩
    · wp_walk using q1
      exact ⟨_, rfl, h⟩
section
variable {prog : Program} {w : World} {A : Around} {E : Value → Shared → Prop} {s : Shared}
theorem call_enum1 {v : Value} {o : Obj} {H : Heap → Prop} {Q : Value → Shared → Prop} (B : Begins v o H) (h1 : H s.heap)
    (h : ∀ h', IsEnum h' (s.heap.objs.size + 1) s.heap.objs.size 0 .none → h'.get? s.heap.objs.size = some o → h'.objs.size = s.heap.objs.size + 2 →
      (∀ b o, s.heap.get? b = some o → h'.get? b = some o) → Q (.ref (s.heap.objs.size + 1)) { s with heap := h' }) :
    wpAny (model prog w) A (call (.type "enumerate") [v]) Q E s := by
  refine callType_new F.called_enumerate (by decide) (F.typeCall_enumerate_1 _) (F.newCall_enumerate_1 _) (fun obj => F.args_object_init_2 obj _) F.entry_enumerate_new
    (meets_enum1 B) ⟨h1, ?_⟩
  have hz : (s.heap.push o).objs.size = s.heap.objs.size + 1 := Heap.size_push ..
  show _ ∧ _
  rw [hz]
  have he : IsEnum ((s.heap.push o).push { cls := .type "enumerate", data := .fields #[.none, .bool false, .ref s.heap.objs.size, rawInt 0, .none, .none] }) (s.heap.objs.size + 1) s.heap.objs.size 0 .none := by
    have := Heap.get?_push_size (s.heap.push o) (o := { cls := .type "enumerate", data := .fields #[.none, .bool false, .ref s.heap.objs.size, rawInt 0, .none, .none] }) rfl
    rw [hz] at this; exact this
  refine ⟨⟨_, he, rfl⟩, h _ he (Heap.get?_push_of_some _ (Heap.get?_push_size _ B.free)) (by rw [Heap.size_push, hz]) fun b o x => Heap.get?_push_of_some _ (Heap.get?_push_of_some _ x)⟩
end
end Lm
namespace Lm
open PySem L2 PyProof.Rows PySem.Spec
open PySem.F in
theorem pyNext_enumT_end {prog : Program} {w : World} {A : Around} {E : Value → Shared → Prop} {s : Shared} {e it l : Addr} {i : Nat} {items : Array Value} {old : Value} {Q : Option Value → Shared → Prop} (hh : A.handled = none)
    (he : IsEnum s.heap e it i old) (hit : s.heap.IsTupleIter it l i) (hl : s.heap.IsTuple l items) (hx : items[i]? = none)
    (hQ : ∀ h', Heap.ExtBut it s.heap h' → Q none { s with heap := h' }) : wpAny (model prog w) A (pyNext (.ref e)) Q E s := by
  have hT : s.TypeIs (.ref e) "enumerate" := ⟨_, he, rfl⟩
  unfold pyNext
  refine wpAny_bind (wpAny_attempt (wpAny_callSpecial?_slot (name := Str.ofString "__next__") hT F.slot_enumerate_next
    (wpAny_call_entry F.slot_enumerate_next hT F.entry_enumerate_next ?_ (F.args_enumerate_next_1 _))))
  show wpAny _ _ (field (.ref e) 2 >>= _) _ _ _
  refine wpAny_bind (wpAny_field he rfl (x := .ref it) rfl ?_)
  refine wpAny_bind (wpAny_nextOf_tuple_end (A := A.in1) hh hit hl hx fun h' x he' hx' => ?_)
  obtain ⟨o, ho, hc⟩ := hx'
  refine wpAny_bind (wpAny_isInstance (T := "StopIteration") (b := true) ⟨o, ho, hc⟩ isSubtype_stop ?_)
  exact wpAny_pure (hQ _ he')
/-- the tuple at a as it stands, each item in a new pair -/
def IteT (K : PySem.W.Frag) (a : Addr) : It :=
  ⟨fun i H => ∃ (xs : List V) (x : V), SqT K H a xs ∧ xs[i]? = some x, fun i H v H' => ∃ T x, v = .ref T ∧ H T = none ∧ H' = upd H T (.tup [.int (i : Nat), x]) ∧ ∀ xs, SqT K H a xs → xs[i]? = some x, fun i H => ∃ xs : List V, SqT K H a xs ∧ xs.length ≤ i⟩
theorem turn_enumT {P : Program} {w : World} {K : PySem.W.Frag} {elts : List Expr} {kk : Nat} {tpos : Pos} (a e it : Addr) (hai : a ≠ it) (hea : e ≠ a) :
    Turn P w K (.Tuple elts kk tpos) (IteT K a) [e, it] e (fun i h => (∃ old, IsEnum h e it ((i : Nat) : Int) old) ∧ h.IsTupleIter it a i ∧ e ≠ it) where
  mem := by simp
  obj := fun i h st b hb => by
    obtain ⟨⟨old, he⟩, ⟨o, ho, hc, hd⟩, _⟩ := st
    have e' : b = e ∨ b = it := by simpa using hb
    rcases e' with z | z
    · rw [z]; exact ⟨_, he, fun v q => nomatch q⟩
    · rw [z]; exact ⟨o, ho, fun v q => by rw [hd] at q; cases q⟩
  keep := fun i h h' st k => let ⟨⟨old, he⟩, hi, hne⟩ := st; ⟨⟨old, k e (by simp) _ he⟩, hi.at fun o q => k it (by simp) o q, hne⟩
  item := by
    intro X hP hw hK hc i pins s σ H E I hf st hg
    subst hP hw hK
    obtain ⟨⟨old, he⟩, hit, hne⟩ := st
    obtain ⟨xs, x, hq, hx⟩ := hg
    obtain ⟨its, rv, p, hz⟩ := I.tuple hq
    obtain ⟨u, hu, ru⟩ := rv.get hx
    have hel : e < s.heap.objs.size := Heap.lt_size he
    have hil : it < s.heap.objs.size := by obtain ⟨_, q, _⟩ := hit; exact Heap.lt_size q
    have hi : i < its.toArray.size := by
      have := (List.getElem?_eq_some_iff.mp hu).1
      simpa using this
    refine wpAny_pyNext_enum_itemD (Draws.tuple (A := X.A.in1) (I.ok.hd hc) it a hai its.toArray) he ⟨hit, p⟩ hi hne (by simp [hne, hea]) fun x' h' tk hx' ho hst' hT hsz hk => ?_
    have hit' := hst'.1
    have ex' : x' = u := by
      have : its[i]? = some x' := by simpa using hx'
      rw [hu] at this; exact (Option.some.inj this).symm
    subst ex'
    refine ⟨_, rfl, wpAny_letOwnedTupleGo_enum (s := { s with heap := h', toks := tk + 1 }) ho fun h'' he' sb => ?_⟩
    have hT2 : h''.get? s.heap.objs.size = some { cls := .type "tuple", data := .seq #[.int i tk, x'] } := (sb.2 _ (Nat.ne_of_gt hel)).trans hT
    have new : ObjOk X.prog X.w (upd H s.heap.objs.size (.tup [.int (i : Nat), x])) h'' s.heap.objs.size (.tup [.int (i : Nat), x]) :=
      ⟨by show 2 ≤ sizeLine; decide, [.int i tk, x'], .cons ⟨_, rfl⟩ (.cons ru .nil), ⟨_, hT2, rfl, _, rfl⟩⟩
    have I1 : Inv X pins σ (upd H s.heap.objs.size (.tup [.int (i : Nat), x])) { s with heap := h'', toks := tk + 1 } :=
      I.turnedNew (ch := [e, it]) (fun b ob hb q => (sb.2 b (fun z => hb (by simp [z]))).trans (hk b ob (fun z => hb (by simp [z])) (fun z => hb (by simp [z])) q)) hf (Nat.le_refl _) new
    refine ⟨.ref s.heap.objs.size, _, I1, rfl, ⟨_, x, rfl, I.hok.fresh (Nat.le_refl _), rfl, fun ys hy => by rw [I.tuple_inj hy hq]; exact hx⟩, ⟨⟨x', ?_⟩, hit'.at fun o q => (sb.2 it (Ne.symm hne)).trans q, hne⟩, fun b hb => ?_⟩
    · have e1 : ((i + 1 : Nat) : Int) = (i : Int) + 1 := by omega
      rw [e1]; exact he'
    · have hb' : b < s.heap.objs.size := by
        have e' : b = e ∨ b = it := by simpa using hb
        rcases e' with z | z
        · rw [z]; exact hel
        · rw [z]; exact hil
      rw [upd_ne (Nat.ne_of_lt hb')]
      exact (hf b hb).1
  done := by
    intro X hP hw hK hc i pins s σ H E I hf st hg
    subst hP hw hK
    obtain ⟨⟨old, he⟩, hit, hne⟩ := st
    obtain ⟨xs, hq, hx⟩ := hg
    obtain ⟨its, rv, p, hz⟩ := I.tuple hq
    obtain ⟨f0, f1, f2, f3, f4, f5⟩ := hf it (by simp)
    have hl := rv.length
    exact pyNext_enumT_end (I.ok.hd hc) he hit p (by simp; omega) fun h' eb => ⟨rfl, I.turned (t' := s.toks) (fun b o hb q => eb b o hb q) f0 f1 f3 f4 f5⟩
  self := fun A i s Q E st h => let ⟨⟨_, he⟩, _⟩ := st; wpAny_pyIter_enum he h
def iEnumA (K : PySem.W.Frag) (ta : TA) : TI := fun σ H R => ta σ H fun vs H1 => ∃ a xs, vs = [.ref a] ∧ ((SqL K H1 a xs ∧ R (Ite K a) H1) ∨ (SqT K H1 a xs ∧ R (IteT K a) H1))
theorem pi_enumA {X : Cx} {e : Expr} {ta : TA} {p pos tpos : Pos} {elts : List Expr} {kk : Nat} (hg : Gl X "enumerate") (hm : X.mg "enumerate" = none) (ha : PA X [e] ta) (hs : starEach [e] X.env = [(false, eval e X.env)] := by rfl) :
    PI X (.Tuple elts kk tpos) (.Call (.Name "enumerate" p) [e] [] pos) (iEnumA X.K ta) := by
  refine ⟨fun pins s σ H R I h => ?_⟩
  refine Call_ (ld_blt I hg hm boot_enumerate (PyProof.Rows.callWith_type1 (thn (ha.run pos pins s σ H _ I h) fun us s1 ⟨vs, H1, I1, r1, q1⟩ => ?_) hs rfl))
  obtain ⟨a, xs, ex, q1⟩ := q1
  subst ex
  cases r1 with
  | cons r rr =>
    cases rr
    cases r
    have fresh2 : ∀ b, b ∈ [s1.heap.objs.size + 1, s1.heap.objs.size] → FpOk X pins H1 b := fun b hb => by
      have e' : b = s1.heap.objs.size + 1 ∨ b = s1.heap.objs.size := by simpa using hb
      have hle : s1.heap.objs.size ≤ b := by
        rcases e' with z | z
        · rw [z]; exact Nat.le_add_right _ _
        · rw [z]; exact Nat.le_refl _
      exact I1.fpOk hle (I1.hok.fresh hle)
    rcases q1 with ⟨hq, q⟩ | ⟨hq, q⟩
    · obtain ⟨its, rv, p', hz⟩ := I1.list hq
      refine call_enumerate_list p'.isList fun h' he hit hsz hk => wpAny_pyIter_enum he ?_
      have I2 : Inv X pins σ H1 { s1 with heap := h' } := I1.kept (t' := s1.toks) hk
      exact ⟨s1.heap.objs.size + 1, [s1.heap.objs.size + 1, s1.heap.objs.size], _, _, H1, rfl, I2, turn_enum a (s1.heap.objs.size + 1) s1.heap.objs.size, ⟨⟨.none, he⟩, hit, Nat.succ_ne_self _⟩, fresh2, q⟩
    · obtain ⟨its, rv, p', hz⟩ := I1.tuple hq
      obtain ⟨o1, ho1, _⟩ := id p'
      have hlt := Heap.lt_size ho1
      refine call_enum1 (begins_tuple a its.toArray) (show s1.heap.IsTuple a its.toArray from p') fun h' he hit hsz hk => wpAny_pyIter_enum he ?_
      have I2 : Inv X pins σ H1 { s1 with heap := h' } := I1.kept (t' := s1.toks) hk
      exact ⟨s1.heap.objs.size + 1, [s1.heap.objs.size + 1, s1.heap.objs.size], _, _, H1, rfl, I2, turn_enumT a (s1.heap.objs.size + 1) s1.heap.objs.size (Nat.ne_of_lt hlt) (Nat.ne_of_gt (Nat.lt_succ_of_lt hlt)), ⟨⟨.none, he⟩, ⟨_, hit, rfl, rfl⟩, Nat.succ_ne_self _⟩, fresh2, q⟩
theorem walk_enumT {K : PySem.W.Frag} {a : Addr} {xs : List V} : Walk (IteT K a) xs.length (fun H => SqT K H a xs) (YPair (fun i => some (.int (i : Nat))) (fun i => xs[i]?)) :=
  ⟨fun i _ hi q => ⟨xs, xs[i], q, by simp [hi]⟩, fun _ q => ⟨xs, q, Nat.le_refl _⟩, fun i H v H' _ q ⟨T, x, e1, e2, e3, e4⟩ => ⟨T, _, x, e1, e2, e3, rfl, e4 xs q⟩⟩
end Lm

namespace Lm
open PySem L2
/-! ### defs, methods, classes as they stand behind the top, with their promises -/
structure DefOk (P : Program) (w : World) (K : PySem.W.Frag) (mg : Str → Option Value) (base : Heap) (k : Nat) (x : Str) (f : Addr) (fd : FuncData) (ps : List Str) (sp : Sp) : Prop where
  ok : FnOk P w K mg base CX0 k f fd ps sp
  kp : PySem.W.keepIn K (.ref f) = true
  bd : Binds K fd ps []
  mg : mg x = some (.ref f)
structure MetOk (P : Program) (w : World) (K : PySem.W.Frag) (mg : Str → Option Value) (base : Heap) (k : Nat) (C : Addr) (m : Str) (f : Addr) (fd : FuncData) (ps : List Str) (sp : Sp) : Prop where
  ok : FnOk P w K mg base CX0 k f fd ps sp
  bd : Binds K fd ps []
  mt : Meth K C m f
  cl : Cls K C
structure ClsOk (P : Program) (w : World) (K : PySem.W.Frag) (mg : Str → Option Value) (base : Heap) (k : Nat) (x : Str) (C f : Addr) (fd : FuncData) (ps : List Str) (sp : Sp) : Prop where
  ok : FnOk P w K mg base CX0 k f fd ps sp
  bd : Binds K fd ps []
  mkr : Mk K C f
  cl : Cls K C
  mg : mg x = some (.ref C)
section
variable {X : Cx} {k : Nat} {f C : Addr} {fd : FuncData} {ps : List Str} {sp : Sp} {x m : Str} {p pos apos : Pos} {e o : Expr} {es : List Expr} {ta : TE} {t : TA}
theorem pe_d (D : DefOk X.prog X.w X.K X.mg X.base k x f fd ps sp) (hr : Room k X.A) (ha : PA X (e :: es) t) (hg : Gl X x := by rfl) (hdb : (x == ("__debug__" : Str)) = false := by decide)
    (he : starEach (e :: es) X.env = (false, eval e X.env) :: starEach es X.env := by rfl) (hpl : (backTo pos (starEach es X.env)).any (·.1) = false := by rfl) :
    PE X (.Call (.Name x p) (e :: es) [] pos) (tCall sp [] E0 t) := pe_call D.ok hr hg D.mg D.kp D.bd .nil pass0 ha hdb he hpl
theorem pe_d0 (D : DefOk X.prog X.w X.K X.mg X.base k x f fd ps sp) (hr : Room k X.A) (hg : Gl X x := by rfl) (hdb : (x == ("__debug__" : Str)) = false := by decide) :
    PE X (.Call (.Name x p) [] [] pos) (tCall sp [] E0 tNil) := pe_call0 D.ok hr hg D.mg D.kp D.bd .nil pass0 hdb
theorem pe_mk (D : ClsOk X.prog X.w X.K X.mg X.base k x C f fd ps sp) (hr : Room (k + 1) X.A) (ha : PA X (e :: es) t) (hg : Gl X x := by rfl) (hdb : (x == ("__debug__" : Str)) = false := by decide)
    (he : starEach (e :: es) X.env = (false, eval e X.env) :: starEach es X.env := by rfl) (hpl : (backTo pos (starEach es X.env)).any (·.1) = false := by rfl) :
    PE X (.Call (.Name x p) (e :: es) [] pos) (tMake C sp [] E0 t) := pe_make D.mkr D.ok hr hg D.mg D.bd .nil pass0 ha hdb he hpl
theorem pe_m {pl : Sem Bool} (D : MetOk X.prog X.w X.K X.mg X.base k C m f fd ps sp) (hr : Room k X.A) (he : PE X o ta) (ha : PA X (e :: es) t)
    (hst : starEach (e :: es) X.env = (false, eval e X.env) :: starEach es X.env := by rfl) (hpl : (backTo pos (starEach es X.env)).any (·.1) = false := by rfl)
    (ht : eval (.Call (.Attribute o m apos) (e :: es) [] pos) X.env = (do
      let ov ← eval o X.env
      standAt apos.atName
      let (f, first) ← holding [ov] (getMethod ov m pl)
      callWith pos f first (backTo pos (starEach (e :: es) X.env)) (backToKw pos (keywordEach [] X.env))) := by rfl) :
    PE X (.Call (.Attribute o m apos) (e :: es) [] pos) (tMeth C m sp [] E0 ta t) := pe_meth (pl := pl) he D.cl D.mt D.ok hr D.bd .nil pass0 ha hst hpl ht
theorem pe_m0 {pl : Sem Bool} (D : MetOk X.prog X.w X.K X.mg X.base k C m f fd ps sp) (hr : Room k X.A) (he : PE X o ta)
    (ht : eval (.Call (.Attribute o m apos) [] [] pos) X.env = (do
      let ov ← eval o X.env
      standAt apos.atName
      let (f, first) ← holding [ov] (getMethod ov m pl)
      callWith pos f first (backTo pos (starEach [] X.env)) (backToKw pos (keywordEach [] X.env))) := by rfl) :
    PE X (.Call (.Attribute o m apos) [] [] pos) (tMeth C m sp [] E0 ta tNil) := pe_meth0 (pl := pl) he D.cl D.mt D.ok hr D.bd .nil pass0 ht
theorem MetOk.len (D : MetOk X.prog X.w X.K X.mg X.base k C "__len__" f fd ps sp) (hr : Room (k + 1) X.A) : CallR X (.builtin "len") (rLenOwn C sp E0) := call_lenOwn D.ok D.mt.at_ D.mt.fn D.bd hr pass0
theorem MetOk.isin (D : MetOk X.prog X.w X.K X.mg X.base k C "__contains__" f fd ps sp) (hr : Room k X.A) : OpR X (compareOp .In) (rInOwn C sp E0 false) := op_inOwn D.ok D.mt.at_ D.mt.fn D.bd hr pass0
theorem MetOk.notin (D : MetOk X.prog X.w X.K X.mg X.base k C "__contains__" f fd ps sp) (hr : Room k X.A) : OpR X (compareOp .NotIn) (rInOwn C sp E0 true) := op_notInOwn D.ok D.mt.at_ D.mt.fn D.bd hr pass0
theorem MetOk.bin {op : Operator} (D : MetOk X.prog X.w X.K X.mg X.base k C (PySem.dunder op.info.2) f fd ps sp) (hc : PySem.W.selfFirst X.K C = true) (hr : Room k X.A) : OpR X (binaryOp op) (rBinOwn C sp E0) := op_binOwn D.ok hc D.mt.at_ D.mt.fn D.bd hr pass0
theorem MetOk.le (D : MetOk X.prog X.w X.K X.mg X.base k C "__le__" f fd ps sp) (hr : Room k X.A) : OpR X (compareOp .LtE) (rBinOwn C sp E0) := op_cmpOwn (fun _ _ => rfl) D.ok D.mt.at_ D.mt.fn D.bd hr pass0
theorem MetOk.lt (D : MetOk X.prog X.w X.K X.mg X.base k C "__lt__" f fd ps sp) (hr : Room k X.A) : OpR X (compareOp .Lt) (rBinOwn C sp E0) := op_cmpOwn (fun _ _ => rfl) D.ok D.mt.at_ D.mt.fn D.bd hr pass0
theorem MetOk.eq (D : MetOk X.prog X.w X.K X.mg X.base k C "__eq__" f fd ps sp) (hr : Room k X.A) : OpR X (compareOp .Eq) (rBinOwn C sp E0) := op_cmpOwn (fun _ _ => rfl) D.ok D.mt.at_ D.mt.fn D.bd hr pass0
/-- x != y of two instances of a class with an own == alone -/
def rNeOwn (C : Addr) (sp : Sp) (E : XK) : R2 := fun x y H Q => ∃ a dx fs b dy gs, x = .ref a ∧ y = .ref b ∧ H a = some (.ins C dx fs) ∧ H b = some (.ins C dy gs) ∧ sp [x, y] H (fun z H' => ∃ k : Bool, z = .bl k ∧ Q (.bl (!k)) H') E
theorem MetOk.ne (D : MetOk X.prog X.w X.K X.mg X.base k C "__eq__" f fd ps sp) (hn : PySem.W.findIn X.K (.ref C) "__ne__" = some (some (.builtin "object.__ne__"))) (ho : PySem.W.subIn X.K (.ref C) (.type "object") = some true) (hr : Room (k + 1) X.A) :
    OpR X (compareOp .NotEq) (rNeOwn C sp E0) := by
  intro pins s σ H x y v u Q I rx ry h
  obtain ⟨a, dx, fs, b, dy, gs, rfl, rfl, ha, hb', q⟩ := h
  cases (show v = Value.ref a from rx)
  cases (show u = Value.ref b from ry)
  obtain ⟨mA, J, _⟩ := ins_get I.hok ha
  obtain ⟨mB, J', _⟩ := ins_get I.hok hb'
  obtain ⟨od, J, _⟩ := J.look
  obtain ⟨od', J', _⟩ := J'.look
  obtain ⟨m, hF⟩ := I.fr
  show wpAny _ _ (richCompare .NotEq _ _) _ _ _
  refine ne_own (tb := .ref C) (by have := hr.un; omega) hF I.ok.mod.kin J J'.type (by simp [PySem.W.notFirst]) hn ho D.mt.at_ D.mt.fn
    (wpAny_mono (run_in (us := [.ref a, .ref b]) (vs := [.ref a, .ref b]) D.ok hr.in1 I.env0.in1 D.bd pass0 I (.cons rfl (.cons rfl .nil)) q) (fun w s' z => ?_) fun _ _ x => x)
  obtain ⟨z', H', I', rz, b, ez, qz⟩ := z
  subst ez
  cases (show w = Value.bool b from rz)
  exact ⟨b, rfl, .bl _, H', I', rfl, qz⟩
end
/-! ### heaps -/
/-- all that was tracked is as it was, but perhaps what stands at st -/
def Kp (st : Addr) (H H' : Hp) : Prop := ∀ b o, b ≠ st → H b = some o → H' b = some o
theorem Kp.refl (st : Addr) (H : Hp) : Kp st H H := fun _ _ _ h => h
theorem Kp.trans {st : Addr} {H H1 H2 : Hp} (a : Kp st H H1) (b : Kp st H1 H2) : Kp st H H2 := fun c o n h => b c o n (a c o n h)
theorem Kp.of {st : Addr} {H H' : Hp} (s : Same H H') : Kp st H H' := fun b o _ h => s b o h
theorem Kp.upd (st : Addr) (H : Hp) (o : HO) : Kp st H (upd H st o) := fun b u n h => by rw [upd_ne n]; exact h
theorem Kp.free {st : Addr} {H H' : Hp} (e : Kp st H H') {l : Addr} (hl : l ≠ st) (h : H' l = none) : H l = none := by
  cases q : H l with
  | none => rfl
  | some o => rw [e l o hl q] at h; cases h
theorem Same.upd' {H : Hp} {p : Addr} {o : HO} (h : H p = none) : Same H (upd H p o) := fun a u e => by rw [upd_ne (ne_of_none e h)]; exact e
/-- an object that H does not know may change -/
theorem Same.mut {H H' : Hp} {p : Addr} {o : HO} (e : Same H H') (h : H p = none) : Same H (upd H' p o) := fun a u ha => by rw [upd_ne (ne_of_none ha h)]; exact e a u ha
theorem Kp.mut {st : Addr} {H H' : Hp} {p : Addr} {o : HO} (e : Kp st H H') (h : H p = none) : Kp st H (L2.upd H' p o) := fun a u hn ha => by rw [upd_ne (ne_of_none ha h)]; exact e a u hn ha
theorem Kp.seqL {st : Addr} {K : PySem.W.Frag} {H H' : Hp} {a : Addr} {xs : List V} (e : Kp st H H') (hn : a ≠ st) (h : SqL K H a xs) : SqL K H' a xs := by
  rcases h with (h | ⟨o, h⟩) | h
  · exact .inl (.inl (e _ _ hn h))
  · exact .inl (.inr ⟨o, e _ _ hn h⟩)
  · exact .inr h
theorem Kp.seqT {st : Addr} {K : PySem.W.Frag} {H H' : Hp} {a : Addr} {xs : List V} (e : Kp st H H') (hn : a ≠ st) (h : SqT K H a xs) : SqT K H' a xs := by
  rcases h with (h | ⟨o, h⟩) | h
  · exact .inl (.inl (e _ _ hn h))
  · exact .inl (.inr ⟨o, e _ _ hn h⟩)
  · exact .inr h
theorem Same.seqT {K : PySem.W.Frag} {H H' : Hp} {a : Addr} {xs : List V} (e : Same H H') (h : SqT K H a xs) : SqT K H' a xs := by
  rcases h with (h | ⟨o, h⟩) | h
  · exact .inl (.inl (e _ _ h))
  · exact .inl (.inr ⟨o, e _ _ h⟩)
  · exact .inr h
/-- the law's state: the cells, how many were taken, what is left, whether it is far -/
structure StAt (H : Hp) (st c : Addr) : Prop where
  ob : ∃ (n l : Int) (b : Bool), H st = some (.lst [.ref c, .int n, .int l, .bl b])
  ce : ∃ ns : List Int, H c = some (.lst (ns.map V.int)) ∧ ns.length ≤ 63
  ne : c ≠ st
theorem StAt.same {H H' : Hp} {st c : Addr} (S : StAt H st c) (e : Same H H') : StAt H' st c := by
  obtain ⟨⟨n, l, b, h⟩, ⟨ns, h2, h3⟩, ne⟩ := S
  exact ⟨⟨n, l, b, e _ _ h⟩, ⟨ns, e _ _ h2, h3⟩, ne⟩
/-- another object changes -/
theorem StAt.mut {H : Hp} {st c p : Addr} {o : HO} (S : StAt H st c) (h1 : p ≠ st) (h2 : p ≠ c) : StAt (upd H p o) st c := by
  obtain ⟨⟨n, l, b, h⟩, ⟨ns, h4, h3⟩, ne⟩ := S
  exact ⟨⟨n, l, b, by rw [upd_ne (Ne.symm h1)]; exact h⟩, ⟨ns, by rw [upd_ne (Ne.symm h2)]; exact h4, h3⟩, ne⟩
theorem StAt.of_new {H : Hp} {st c p : Addr} (S : StAt H st c) (h : H p = none) : p ≠ st ∧ p ≠ c := by
  obtain ⟨⟨n, l, b, h1⟩, ⟨ns, h4, h3⟩, ne⟩ := S
  exact ⟨(ne_of_none h1 h).symm, (ne_of_none h4 h).symm⟩
end Lm

namespace Lm
open PySem PySem.W PySem.Calls PyProof.Rows
open AutoSeq1 (wpAny_loadPart')
section
variable {prog : Program} {w : World} {A : Around} {E : Value → Shared → Prop} {s : Shared} {K : Frag} {x C L f dx : Addr} {h₀ : Heap} {m : Str → Option Value} {od : Option Obj}
theorem int_eq_ins (n : Int) (t : Tok) (x : Addr) {C dx : Addr} : GivesAt (fun s => s.heap.get? x = some (instObj C dx)) (Builtin.«int.__eq__» ⟨[.int n t, .ref x], []⟩) (.val .notImplemented) := by
  intro prog w A R s hx h
  obtain ⟨hp, g, d, tk, os⟩ := s
  have hx : hp.get? x = some (instObj C dx) := hx
  wp_walk using wpAny_load hx, wpAny_loadPart' hx
  exact h
theorem str_eq_ins (n : Str) (t : Tok) (x : Addr) {C dx : Addr} : GivesAt (fun s => s.heap.get? x = some (instObj C dx)) (Builtin.«str.__eq__» ⟨[.str n t, .ref x], []⟩) (.val .notImplemented) := by
  intro prog w A R s hx h
  obtain ⟨hp, g, d, tk, os⟩ := s
  have hx : hp.get? x = some (instObj C dx) := hx
  wp_walk using wpAny_load hx, wpAny_loadPart' hx
  exact h
theorem list_eq_ins (l x : Addr) {items : Array Value} {n : Nat} {dd : Option Addr} {sl : Array (Option Value)} : GivesAt (fun s => s.heap.get? l = some { cls := .type "list", dict := dd, data := .seq items n, slots := sl } ∧ ∀ prog w, Looks (model prog w) s.heap (isInstance (.ref x) (.type "list")) false)
    (Builtin.«list.__eq__» ⟨[.ref l, .ref x], []⟩) (.val .notImplemented) := by
  intro prog w A R s ⟨hl, hi⟩ h
  obtain ⟨hp, g, d, tk, os⟩ := s
  have hi := hi prog w
  wp_walk using hi.here, wpAny_loadPart' hl
  exact h
theorem tuple_eq_ins (l x : Addr) {items : Array Value} {n : Nat} {dd : Option Addr} {sl : Array (Option Value)} : GivesAt (fun s => s.heap.get? l = some { cls := .type "tuple", dict := dd, data := .seq items n, slots := sl } ∧ ∀ prog w, Looks (model prog w) s.heap (isInstance (.ref x) (.type "tuple")) false)
    (Builtin.«tuple.__eq__» ⟨[.ref l, .ref x], []⟩) (.val .notImplemented) := by
  intro prog w A R s ⟨hl, hi⟩ h
  obtain ⟨hp, g, d, tk, os⟩ := s
  have hi := hi prog w
  wp_walk using hi.here, wpAny_loadPart' hl
  exact h
/-- v == x, v of a built-in type whose own == declines, x an instance with an own == -/
theorem eq_refl_K {Q : Value → Shared → Prop} {v : Value} {T id : String} {ox : Obj} (hu : A.units < cLine) (F : Fr h₀ L s.heap m) (X₀ : K.In h₀) (I : InstAt s.heap x ox C od) (hT : s.TypeIs v T) (slot : Slot T (cmpInfo .Eq).2.1 id)
    (hsub : subIn K (.ref C) (.type T) = some false) (hs : findIn K (.ref C) "__eq__" = some (some (.ref f))) (hf : isFn K (.ref f) = true)
    (hc : ∀ Q' : Value → Shared → Prop, Q' .notImplemented s → wpAny (model prog w) A (call (.builtin id) [v, .ref x]) Q' E s)
    (h : wpAny (model prog w) A (call (.ref f) [.ref x, v]) (PySem.W.CmpBack Q) E s) : wpAny (model prog w) A (richCompare .Eq v (.ref x)) Q E s := by
  have X := X₀.keeps F.keep
  have two : wpAny (model prog w) A (tryCompare (.ref x) "__eq__" v) (fun r s' => ∃ u, r = some u ∧ Q u s') E s := by
    unfold tryCompare
    refine wpAny_bind (ifBound_K X I hs hf (wpAny_mono h (fun v s' hv => ?_) fun _ _ e => e))
    cases v <;> first | exact hv.elim | exact wpAny_pure ⟨_, rfl, hv⟩
  have hne : (Value.type T != Value.ref C) = true := by
    rw [bne_iff_ne]; intro z; cases z
  simp only [richCompare, cmpInfo, hT.oneThing_none] at slot ⊢
  refine wpAny_holding ?_
  refine wpAny_bind (wpAny_cRoomFor hu ?_)
  refine wpAny_bind (wpAny_typeOf hT (wpAny_bind (I.type.here ?_)))
  simp only [hne, if_true]
  refine wpAny_bind ((looks_subIn X hsub).here ?_)
  simp only [Bool.false_eq_true, if_false, Bool.not_false, if_true]
  refine wpAny_bind (m := tryCompare v _ (.ref x)) (wpAny_tryCompare_declines hT slot (hc _ ⟨rfl, ?_⟩))
  refine wpAny_bind (wpAny_mono two (fun r s' z => ?_) fun _ _ e => e)
  obtain ⟨u, rfl, hq⟩ := z
  exact wpAny_pure hq
end
end Lm

namespace Lm
open PySem L2 RZ
theorem walk_zipT {K : PySem.W.Frag} {a b : Addr} {xs ys : List V} {n : Nat} (hn : n = min xs.length ys.length) : Walk (ItzT K a b) n (fun H => SqT K H a xs ∧ SqT K H b ys) (YPair (fun i => xs[i]?) (fun i => ys[i]?)) := by
  subst hn
  refine ⟨fun i _ hi q => ?_, fun _ q => ⟨xs, ys, q.1, q.2, by omega⟩, fun i H v H' _ q y => ?_⟩
  · have h1 : i < xs.length := by omega
    have h2 : i < ys.length := by omega
    exact ⟨xs, ys, xs[i], ys[i], q.1, q.2, by simp [h1], by simp [h2]⟩
  · obtain ⟨T, x, z, h1, h2, h3, h4, h5⟩ := y
    exact ⟨T, x, z, h1, h2, h3, h4 xs q.1, h5 ys q.2⟩
/-- built-in values whose own == declines an instance -/
inductive TyE (H : Hp) : V → String → Prop where
  | non : TyE H .non "NoneType"
  | int (i : Int) : TyE H (.int i) "int"
  | str (x : Str) : TyE H (.str x) "str"
  | lst {a : Addr} {xs : List V} (e : H a = some (.lst xs)) : TyE H (.ref a) "list"
  | tup {a : Addr} {xs : List V} (e : H a = some (.tup xs)) : TyE H (.ref a) "tuple"
section
variable {X : Cx} {CX : CXT} {k : Nat} {f C : Addr} {fd : FuncData} {ps : List Str} {sp : Sp} {E : XK}
theorem op_or {op : Value → Value → Sem Value} {r r' : R2} (h : OpR X op r) (h' : OpR X op r') : OpR X op (fun x y H Q => r x y H Q ∨ r' x y H Q) := by
  intro pins s σ H x y v u Q I rx ry q
  rcases q with q | q
  · exact h pins s σ H x y v u Q I rx ry q
  · exact h' pins s σ H x y v u Q I rx ry q
/-- x == y, x an instance with an own ==, y anything -/
def rEqL (K : PySem.W.Frag) (C : Addr) (sp : Sp) (E : XK) : R2 := fun x y H Q => ∃ a dx fs t, x = .ref a ∧ H a = some (.ins C dx fs) ∧ TyX K H y t ∧ PySem.W.notFirst K C t = true ∧ sp [x, y] H Q E
theorem op_eqL (F : FnOk X.prog X.w X.K X.mg X.base CX k f fd ps sp) (hs : PySem.W.findIn X.K (.ref C) "__eq__" = some (some (.ref f))) (hf : PySem.W.isFn X.K (.ref f) = true) (hb : Binds X.K fd ps []) (hr : Room k X.A) (hx : Passes CX X E) :
    OpR X (compareOp .Eq) (rEqL X.K C sp E) := by
  intro pins s σ H x y v u Q I rx ry h
  obtain ⟨a, dx, fs, t, rfl, ha, ty, hn, q⟩ := h
  cases (show v = Value.ref a from rx)
  obtain ⟨mA, J, _⟩ := ins_get I.hok ha
  obtain ⟨od, J, _⟩ := J.look
  obtain ⟨P, Z, p, _⟩ := kit_of I ry ty
  obtain ⟨m, hF⟩ := I.fr
  show wpAny _ _ (richCompare .Eq _ _) _ _ _
  refine PySem.W.cmp_K (op := .Eq) (tb := t) hr.units0 hF I.ok.mod.kin J (Z.ty _ _ I.kIn p) hn hs hf (wpAny_mono (run_in (us := [.ref a, u]) (vs := [.ref a, y]) F hr I.env0 hb hx I (.cons rfl (.cons ry .nil)) q) (fun w s' z => ?_) fun _ _ x => x)
  obtain ⟨z', H', I', rz, qz⟩ := z
  exact cmpBack rz ⟨z', H', I', rz, qz⟩
/-- x != y, x an instance with an own == alone, y anything -/
def rNeL (K : PySem.W.Frag) (C : Addr) (sp : Sp) (E : XK) : R2 := fun x y H Q => ∃ a dx fs t, x = .ref a ∧ H a = some (.ins C dx fs) ∧ TyX K H y t ∧ PySem.W.notFirst K C t = true ∧ sp [x, y] H (fun z H' => ∃ k : Bool, z = .bl k ∧ Q (.bl (!k)) H') E
theorem op_neL (F : FnOk X.prog X.w X.K X.mg X.base CX k f fd ps sp) (hs : PySem.W.findIn X.K (.ref C) "__eq__" = some (some (.ref f))) (hf : PySem.W.isFn X.K (.ref f) = true) (hb : Binds X.K fd ps [])
    (hn : PySem.W.findIn X.K (.ref C) "__ne__" = some (some (.builtin "object.__ne__"))) (ho : PySem.W.subIn X.K (.ref C) (.type "object") = some true) (hr : Room (k + 1) X.A) (hx : Passes CX X E) :
    OpR X (compareOp .NotEq) (rNeL X.K C sp E) := by
  intro pins s σ H x y v u Q I rx ry h
  obtain ⟨a, dx, fs, t, rfl, ha, ty, hnf, q⟩ := h
  cases (show v = Value.ref a from rx)
  obtain ⟨mA, J, _⟩ := ins_get I.hok ha
  obtain ⟨od, J, _⟩ := J.look
  obtain ⟨P, Z, p, _⟩ := kit_of I ry ty
  obtain ⟨m, hF⟩ := I.fr
  show wpAny _ _ (richCompare .NotEq _ _) _ _ _
  refine ne_own (tb := t) (by have := hr.un; omega) hF I.ok.mod.kin J (Z.ty _ _ I.kIn p) hnf hn ho hs hf
    (wpAny_mono (run_in (us := [.ref a, u]) (vs := [.ref a, y]) F hr.in1 I.env0.in1 hb hx I (.cons rfl (.cons ry .nil)) q) (fun w s' z => ?_) fun _ _ x => x)
  obtain ⟨z', H', I', rz, b, ez, qz⟩ := z
  subst ez
  cases (show w = Value.bool b from rz)
  exact ⟨b, rfl, .bl _, H', I', rfl, qz⟩
/-- x == y, x of a built-in type, y an instance with an own == -/
def rEqR (K : PySem.W.Frag) (C : Addr) (sp : Sp) (E : XK) : R2 := fun x y H Q => ∃ b dy gs T, y = .ref b ∧ H b = some (.ins C dy gs) ∧ TyE H x T ∧ PySem.W.subIn K (.ref C) (.type T) = some false ∧ sp [y, x] H Q E
theorem op_eqR (F : FnOk X.prog X.w X.K X.mg X.base CX k f fd ps sp) (hs : PySem.W.findIn X.K (.ref C) "__eq__" = some (some (.ref f))) (hf : PySem.W.isFn X.K (.ref f) = true) (hb : Binds X.K fd ps []) (hr : Room k X.A) (hx : Passes CX X E) :
    OpR X (compareOp .Eq) (rEqR X.K C sp E) := by
  intro pins s σ H x y v u Q I rx ry h
  obtain ⟨b, dy, gs, T, rfl, hb', ty, hsub, q⟩ := h
  cases (show u = Value.ref b from ry)
  obtain ⟨mA, J, _⟩ := ins_get I.hok hb'
  obtain ⟨od, J, _⟩ := J.look
  obtain ⟨m, hF⟩ := I.fr
  show wpAny _ _ (richCompare .Eq _ _) _ _ _
  have run : wpAny (model X.prog X.w) X.A (call (.ref f) [.ref b, v]) (PySem.W.CmpBack (EP X pins σ Q)) X.xe s := by
    refine wpAny_mono (run_in (us := [.ref b, v]) (vs := [.ref b, x]) F hr I.env0 hb hx I (.cons rfl (.cons rx .nil)) q) (fun w s' z => ?_) fun _ _ x => x
    obtain ⟨z', H', I', rz, qz⟩ := z
    exact cmpBack rz ⟨z', H', I', rz, qz⟩
  have hin : ∀ (T : String), PySem.W.subIn X.K (.ref C) (.type T) = some false → ∀ prog w, PySem.W.Looks (model prog w) s.heap (isInstance (.ref b) (.type T)) false := fun T h prog w => J.type.andThen (PySem.W.looks_subIn I.kIn h)
  cases ty with
  | non =>
    cases (show v = Value.none from rx)
    exact eq_refl_K hr.units0 hF I.ok.mod.kin J rfl PySem.F.slot_NoneType_eq hsub hs hf (fun Q' hq => call_gives PySem.F.slot_NoneType_eq rfl PySem.F.entry_NoneType_eq (PySem.F.args_NoneType_eq_2 _ _) (SeqAt.NoneType___eq___none_ref_0 b) hq) run
  | int i =>
    obtain ⟨t, e⟩ := (show ∃ t, v = Value.int i t from rx)
    subst e
    exact eq_refl_K hr.units0 hF I.ok.mod.kin J (typeIs_int _ i t) PySem.F.slot_int_eq hsub hs hf (fun Q' hq => PySem.call_givesAt PySem.F.slot_int_eq (typeIs_int _ i t) PySem.F.entry_int_eq (PySem.F.args_int_eq_2 _ _) (int_eq_ins i t b) J.at_ hq) run
  | str i =>
    obtain ⟨t, e⟩ := (show ∃ t, v = Value.str i t from rx)
    subst e
    exact eq_refl_K hr.units0 hF I.ok.mod.kin J (typeIs_str _ i t) PySem.F.slot_str_eq hsub hs hf (fun Q' hq => PySem.call_givesAt PySem.F.slot_str_eq (typeIs_str _ i t) PySem.F.entry_str_eq (PySem.F.args_str_eq_2 _ _) (str_eq_ins i t b) J.at_ hq) run
  | @lst a xs e =>
    cases (show v = Value.ref a from rx)
    obtain ⟨_, _, n, _, h1⟩ := (show ObjOk X.prog X.w H s.heap a (.lst xs) from I.hok a _ e)
    exact eq_refl_K hr.units0 hF I.ok.mod.kin J ⟨_, h1, rfl⟩ PySem.F.slot_list_eq hsub hs hf (fun Q' hq => PySem.call_givesAt PySem.F.slot_list_eq ⟨_, h1, rfl⟩ PySem.F.entry_list_eq (PySem.F.args_list_eq_2 _ _) (list_eq_ins a b) ⟨h1, hin _ hsub⟩ hq) run
  | @tup a xs e =>
    cases (show v = Value.ref a from rx)
    obtain ⟨_, _, _, ⟨oc, od', dt, sl⟩, h1, h2, n, h3⟩ := (show ObjOk X.prog X.w H s.heap a (.tup xs) from I.hok a _ e)
    simp only at h2 h3
    subst h2 h3
    exact eq_refl_K hr.units0 hF I.ok.mod.kin J ⟨_, h1, rfl⟩ PySem.F.slot_tuple_eq hsub hs hf (fun Q' hq => PySem.call_givesAt PySem.F.slot_tuple_eq ⟨_, h1, rfl⟩ PySem.F.entry_tuple_eq (PySem.F.args_tuple_eq_2 _ _) (tuple_eq_ins a b) ⟨h1, hin _ hsub⟩ hq) run
theorem MetOk.eqL (D : MetOk X.prog X.w X.K X.mg X.base k C "__eq__" f fd ps sp) (hr : Room k X.A) : OpR X (compareOp .Eq) (rEqL X.K C sp E0) := op_eqL D.ok D.mt.at_ D.mt.fn D.bd hr pass0
theorem MetOk.eqR (D : MetOk X.prog X.w X.K X.mg X.base k C "__eq__" f fd ps sp) (hr : Room k X.A) : OpR X (compareOp .Eq) (rEqR X.K C sp E0) := op_eqR D.ok D.mt.at_ D.mt.fn D.bd hr pass0
theorem MetOk.neL (D : MetOk X.prog X.w X.K X.mg X.base k C "__eq__" f fd ps sp) (hn : PySem.W.findIn X.K (.ref C) "__ne__" = some (some (.builtin "object.__ne__"))) (ho : PySem.W.subIn X.K (.ref C) (.type "object") = some true) (hr : Room (k + 1) X.A) :
    OpR X (compareOp .NotEq) (rNeL X.K C sp E0) := op_neL D.ok D.mt.at_ D.mt.fn D.bd hn ho hr pass0
end
def rAddS : R2 := fun x y H Q => ∃ i j, x = .str i ∧ y = .str j ∧ i.length + j.length ≤ sizeLine ∧ Q (.str (i ++ j)) H
/-! ### C(k2 = b, k1 = a) -/
def swapR {α : Type} (us ws : List α) : List α := us ++ ws.reverse
theorem vals_snoc : ∀ {vs : List V} {us : List Value} {v : V} {u : Value}, Vals vs us → RelV v u → Vals (vs ++ [v]) (us ++ [u])
  | _, _, _, _, .nil, r => .cons r .nil
  | _, _, _, _, .cons a b, r => .cons a (vals_snoc b r)
theorem vals_rev : ∀ {vs : List V} {us : List Value}, Vals vs us → Vals vs.reverse us.reverse
  | _, _, .nil => .nil
  | _, _, .cons a b => by rw [List.reverse_cons, List.reverse_cons]; exact vals_snoc (vals_rev b) a
theorem vals_app : ∀ {vs : List V} {us : List Value} {ws : List V} {zs : List Value}, Vals vs us → Vals ws zs → Vals (vs ++ ws) (us ++ zs)
  | _, _, _, _, .nil, r => r
  | _, _, _, _, .cons a b, r => .cons a (vals_app b r)
theorem Fun.swap {K : PySem.W.Frag} {x qual : Str} {st : Stmt} {f : Addr} {fd : FuncData} {ps : List Str} {k1 k2 : Str} (F : Fun K x qual st f fd)
    (h : ∀ (kV doc pm : Value) (an : Option Addr) (cdv ct : Value) (a b c : Value), bindArgs (PySem.W.fnOf x qual (defArgs st) (defBody st) (defScope st) .none kV doc pm an cdv ct) ⟨[a], [(k2, c), (k1, b)]⟩ = pure (ps.zip [a, b, c])) : KBn K fd ps 1 [k2, k1] swapR swapR := by
  obtain ⟨oc, od, kV, doc, pm, an, cdv, ct, osl, rfl, lk, hcd⟩ := F.ex
  refine ⟨fun s us ws X l1 l2 => ?_, fun r1 r2 => vals_app r1 (vals_rev r2)⟩
  match us, ws, l1, l2 with
  | [a], [c, b], _, _ => exact .of_eq (h kV doc pm an cdv ct a b c)
section
variable {X : Cx} {k : Nat} {f C : Addr} {fd : FuncData} {ps ks : List Str} {sp : Sp} {x : Str} {p pos : Pos} {kws : List Keyword} {tk : TA} {g : List Value → List Value → List Value} {gV : List V → List V → List V}
theorem pe_mkK (D : ClsOk X.prog X.w X.K X.mg X.base k x C f fd ps sp) (hb : KBn X.K fd ps 1 ks g gV) (hr : Room (k + 1) X.A) (hkw : PK X kws tk) (hg : Gl X x := by rfl) (hdb : (x == ("__debug__" : Str)) = false := by decide)
    (hall : (backToKw pos (keywordEach kws X.env)).all (·.1.isSome) = true := by rfl) (hks : (backToKw pos (keywordEach kws X.env)).filterMap (·.1) = ks := by rfl)
    (hpl : ((backTo pos (starEach [] X.env)).any (·.1) || (backToKw pos (keywordEach kws X.env)).any (·.1.isNone)) = false := by rfl) :
    PE X (.Call (.Name x p) [] kws pos) (tMakeK C 0 ks.length sp gV E0 tNil tk) := pe_makeK0 D.mkr D.ok hr hg D.mg hb pass0 hkw hall hks hdb hpl
end
end Lm

namespace Lm
open PySem L2
section
variable {X : Cx} {C : Addr} {bmB : List Value} {B newId initId : String}
/-- X(), X an own exception class without own __init__ -/
theorem pmk_own0 {x : Str} {p pos : Pos} (F : ExcBaseFacts B newId initId bmB) (q : PySem.W.excIn X.K C bmB newId = true) (gC : X.mg x = some (.ref C)) (kC : PySem.W.keepIn X.K (.ref C) = true) (r : Raises X (.ref C)) (hg : Gl X x := by rfl) (hdb : (x == ("__debug__" : Str)) = false := by decide) :
    PMk X (.Call (.Name x p) [] [] pos) (fun _ H Q => Q (.ref C) none H) := by
  intro pins s σ H Q I h
  refine wpAny_Call_Name_kw (ld_glob I hg gC ?_ hdb)
  refine PySem.W.callWith_K0 (first := []) I.kIn kC ?_
  show wpAny _ _ (call (.ref C) []) _ _ _
  obtain ⟨bm, N, nm, qn, bs, hdct, sn, sub, ab, col, dd, k0, k1, k2, k3, k5, mN, hC, hN, hni, T⟩ := exc_obj I.kIn q
  refine wpAny_call_exc_subT F T hC hN hni (fun h' e hm => ?_) (Nat.zero_le _)
  exact mk_of I hm r h (I.hok.gone hm.new)
end
/-- what the text says of an own error -/
structure ErrTxt (K : PySem.W.Frag) (mg : Str → Option Value) (x : Str) (C : Addr) : Prop where
  g : mg x = some (.ref C)
  xi : PySem.W.excIn K C [.type "ValueError", .type "Exception", .type "BaseException", .type "object"] "ValueError.__new__" = true
  kp : PySem.W.keepIn K (.ref C) = true
  b : PySem.W.subIn K (.ref C) (.type "BaseException") = some true
  t : PySem.W.typeIn K (.ref C) = some (.type "type")
  ic : PySem.W.isClsIn K C = true
  self : PySem.W.subIn K (.ref C) (.ref C) = some true
/-- an error of the class at S is what «except S» names -/
theorem exm_self {K : PySem.W.Frag} {S : Addr} (h1 : PySem.W.subIn K (.ref S) (.type "BaseException") = some true) (h2 : PySem.W.isClsIn K S = true) (h3 : PySem.W.typeIn K (.ref S) = some (.type "type")) (h4 : PySem.W.subIn K (.ref S) (.ref S) = some true) :
    PySem.W.exmOne K (.ref S) (.ref S) = some true := by
  have e1 : (PySem.W.subIn K (.ref S) (.type "BaseException") == some true) = true := by rw [h1] <;> rfl
  have e2 : ((PySem.W.clsIn K S).isSome && PySem.W.typeIn K (.ref S) == some (.type "type")) = true := by
    have h2' : (PySem.W.clsIn K S).isSome = true := h2
    rw [h2', h3] <;> rfl
  show (if (PySem.W.subIn K (.ref S) (.type "BaseException") == some true) = true then (if ((PySem.W.clsIn K S).isSome && PySem.W.typeIn K (.ref S) == some (.type "type")) = true then PySem.W.subIn K (.ref S) (.ref S) else none) else none) = some true
  rw [if_pos e1, if_pos e2]
  exact h4
theorem ErrTxt.exm {K : PySem.W.Frag} {mg : Str → Option Value} {x : Str} {C : Addr} (T : ErrTxt K mg x C) : PySem.W.exmOne K (.ref C) (.ref C) = some true := exm_self T.b T.ic T.t T.self
theorem ErrTxt.call {X : Cx} {x : Str} {C : Addr} {p pos : Pos} (T : ErrTxt X.K X.mg x C) (hg : Gl X x := by rfl) (hdb : (x == ("__debug__" : Str)) = false := by decide) : PMk X (.Call (.Name x p) [] [] pos) (fun _ H Q => Q (.ref C) none H) :=
  pmk_own0 PySem.F.excBase_ValueError T.xi T.g T.kp (raises_own T.b T.t) hg hdb
/-! ### defs and methods that raise -/
structure DefOkX (P : Program) (w : World) (K : PySem.W.Frag) (mg : Str → Option Value) (base : Heap) (k : Nat) (x : Str) (f : Addr) (fd : FuncData) (ps : List Str) (sp : Sp) : Prop where
  ok : FnOk P w K mg base (L2.CX P w) k f fd ps sp
  kp : PySem.W.keepIn K (.ref f) = true
  bd : Binds K fd ps []
  mg : mg x = some (.ref f)
structure MetOkX (P : Program) (w : World) (K : PySem.W.Frag) (mg : Str → Option Value) (base : Heap) (k : Nat) (C : Addr) (m : Str) (f : Addr) (fd : FuncData) (ps : List Str) (sp : Sp) : Prop where
  ok : FnOk P w K mg base (L2.CX P w) k f fd ps sp
  bd : Binds K fd ps []
  mt : Meth K C m f
  cl : Cls K C
/-- o.m(e, ..) that may raise, at the slots -/
def tMethE (C : Addr) (m : Str) (sp : Sp) (E : St → XK) (ta : TE) (t : TA) : TE := fun σ H Q => ta σ H fun x H1 => ∃ a dx fs, x = .ref a ∧ H1 a = some (.ins C dx fs) ∧ fs.lookup m = none ∧ t σ H1 fun vs H2 => sp (.ref a :: vs) H2 Q (E σ)
/-- o.m(k = v, ..) -/
def tMethK (C : Addr) (m : Str) (n : Nat) (sp : Sp) (gV : List V → List V → List V) (E : XK) (ta : TE) (tk : TA) : TE := fun σ H Q => ta σ H fun x H1 => ∃ a dx fs, x = .ref a ∧ H1 a = some (.ins C dx fs) ∧ fs.lookup m = none ∧ tk σ H1 fun zs H2 => zs.length = n ∧ sp (gV [.ref a] zs) H2 Q E
section
variable {X : Cx} {k : Nat} {f C : Addr} {fd : FuncData} {ps ks : List Str} {sp : Sp} {E : XK} {x m : Str} {p pos apos : Pos} {e o : Expr} {es : List Expr} {kws : List Keyword} {ta : TE} {t tk : TA} {g : List Value → List Value → List Value} {gV : List V → List V → List V}
theorem pe_dX (D : DefOkX X.prog X.w X.K X.mg X.base k x f fd ps sp) (hr : Room k X.A) (hx : Passes (L2.CX X.prog X.w) X E) (ha : PA X (e :: es) t) (hg : Gl X x := by rfl) (hdb : (x == ("__debug__" : Str)) = false := by decide)
    (he : starEach (e :: es) X.env = (false, eval e X.env) :: starEach es X.env := by rfl) (hpl : (backTo pos (starEach es X.env)).any (·.1) = false := by rfl) :
    PE X (.Call (.Name x p) (e :: es) [] pos) (tCall sp [] E t) := pe_call D.ok hr hg D.mg D.kp D.bd .nil hx ha hdb he hpl
theorem pe_mX {pl : Sem Bool} {E : St → XK} (D : MetOkX X.prog X.w X.K X.mg X.base k C m f fd ps sp) (hr : Room k X.A) (hx : ∀ σ, PassesAt (L2.CX X.prog X.w) X σ (E σ)) (he : PE X o ta) (ha : PA X (e :: es) t)
    (hst : starEach (e :: es) X.env = (false, eval e X.env) :: starEach es X.env := by rfl) (hpl : (backTo pos (starEach es X.env)).any (·.1) = false := by rfl)
    (ht : eval (.Call (.Attribute o m apos) (e :: es) [] pos) X.env = (do
      let ov ← eval o X.env
      standAt apos.atName
      let (f, first) ← holding [ov] (getMethod ov m pl)
      callWith pos f first (backTo pos (starEach (e :: es) X.env)) (backToKw pos (keywordEach [] X.env))) := by rfl) :
    PE X (.Call (.Attribute o m apos) (e :: es) [] pos) (tMethE C m sp E ta t) := by
  refine ⟨fun pins s σ H Q I h => ?_⟩
  refine PySem.W.methodCall_KW (pl := pl) (thn (he.run pins s σ H _ I h) fun u s1 ⟨x, H1, I1, rx, a, dx, fs, ex, ea, l, q⟩ => ?_) ht
  subst ex
  obtain rfl : u = Value.ref a := rx
  refine getmeth_ok I1 ea D.cl D.mt l ?_
  refine PySem.W.callWith_K (first := [.ref a]) (h₀ := X.base) I.ok.mod.kin D.mt.kp (thn (ha.run pos pins s1 σ H1 _ I1 q) fun us s2 ⟨vs, H2, I2, r, q2⟩ => ⟨I2.kIn, ?_⟩) hst hpl
  exact run_fnS (us := .ref a :: us) (vs := .ref a :: vs) D.ok hr D.bd (hx σ) I2 (.cons rfl r) q2
theorem pe_mk_ {pl : Sem Bool} (D : MetOk X.prog X.w X.K X.mg X.base k C m f fd ps sp) (hb : KBn X.K fd ps 1 ks g gV) (hr : Room k X.A) (he : PE X o ta) (hkw : PK X kws tk)
    (hall : (backToKw pos (keywordEach kws X.env)).all (·.1.isSome) = true := by rfl) (hks : (backToKw pos (keywordEach kws X.env)).filterMap (·.1) = ks := by rfl)
    (hpl : ((backTo pos (starEach [] X.env)).any (·.1) || (backToKw pos (keywordEach kws X.env)).any (·.1.isNone)) = false := by rfl)
    (ht : eval (.Call (.Attribute o m apos) [] kws pos) X.env = (do
      let ov ← eval o X.env
      standAt apos.atName
      let (f, first) ← holding [ov] (getMethod ov m pl)
      callWith pos f first (backTo pos (starEach [] X.env)) (backToKw pos (keywordEach kws X.env))) := by rfl) :
    PE X (.Call (.Attribute o m apos) [] kws pos) (tMethK C m ks.length sp gV E0 ta tk) := by
  refine ⟨fun pins s σ H Q I h => ?_⟩
  refine PySem.W.methodCall_KW (pl := pl) (thn (he.run pins s σ H _ I h) fun u s1 ⟨x, H1, I1, rx, a, dx, fs, ex, ea, l, q⟩ => ?_) ht
  subst ex
  obtain rfl : u = Value.ref a := rx
  refine getmeth_ok I1 ea D.cl D.mt l ?_
  refine PySem.W.callWith_KW0 (first := [.ref a]) (h₀ := X.base) I.ok.mod.kin D.mt.kp hall ?_ hpl
  refine thn (hkw.run pos pins s1 σ H1 _ I1 q) fun ws s2 ⟨zs, H2, I2, rz, l2, q2⟩ => ⟨I2.kIn, ?_⟩
  rw [hks]
  have r2 := hb.rel (vs := [V.ref a]) (us := [Value.ref a]) (.cons rfl .nil) rz
  show wpAny _ _ (call (.ref f) [.ref a] (ks.zip ws)) _ _ _
  refine wpAny_call (codeAny_mono (D.ok.run X.A X.stack s2 H2 ⟨[.ref a], ks.zip ws⟩ (g [.ref a] ws) (gV [.ref a] zs) Q E0 hr I2.env0 (hb.to s2 [.ref a] ws I2.kIn rfl (rz.length.symm.trans l2)) r2 q2) fun r s' hq => ?_)
  cases r with
  | error e => exact pass0 pins σ H2 s2 e s' I2 hq
  | ok fl =>
    cases fl with
    | ret u => exact I2.after hq
    | next => exact False.elim hq
    | brk => exact False.elim hq
    | cont => exact False.elim hq
end
/-- one keyword alone -/
def oneR {α : Type} (us ws : List α) : List α := us ++ ws
theorem Fun.kone {K : PySem.W.Frag} {x qual : Str} {st : Stmt} {f : Addr} {fd : FuncData} {ps : List Str} {k1 : Str} (F : Fun K x qual st f fd)
    (h : ∀ (kV doc pm : Value) (an : Option Addr) (cdv ct : Value) (a b : Value), bindArgs (PySem.W.fnOf x qual (defArgs st) (defBody st) (defScope st) .none kV doc pm an cdv ct) ⟨[a], [(k1, b)]⟩ = pure (ps.zip [a, b])) : KBn K fd ps 1 [k1] oneR oneR := by
  obtain ⟨oc, od, kV, doc, pm, an, cdv, ct, osl, rfl, lk, hcd⟩ := F.ex
  refine ⟨fun s us ws X l1 l2 => ?_, fun r1 r2 => vals_app r1 r2⟩
  match us, ws, l1, l2 with
  | [a], [b], _, _ => exact .of_eq (h kV doc pm an cdv ct a b)
end Lm

namespace Lm
open PySem L2 PyProof.Rows PySem.Spec
theorem tuple_mul_same (l : Addr) (items : Array Value) (n : Nat) (dd : Option Addr) (sl : Array (Option Value)) (x : Int) (u : Tok) (c0 : (decide (x < -(2 ^ 63)) || decide (x ≥ 2 ^ 63)) = false) (c1 : (items.isEmpty || x == 1) = true) :
    Meets (Builtin.«tuple.__mul__» ⟨[.ref l, .int x u], []⟩) (fun _ R s => s.heap.get? l = some { cls := .type "tuple", dict := dd, data := .seq items n, slots := sl } ∧ R (.ok (.ret (Value.ref l))) s) :=
  .of_wp fun prog w A R s h => by
    obtain ⟨hp, g, d, tk, os⟩ := s
    obtain ⟨hl, h⟩ := h
    have f1 := AutoSeq1.idx_int
    wp_walk using wpAny_loadPart' hl, wpAny_load hl
    repeat (first
      | (refine wpAny_ite_false (decide_eq_false (by rw [c0]; exact Bool.false_ne_true)) ?_; wp_walk using wpAny_loadPart' hl, wpAny_load hl)
      | (refine wpAny_ite_true (decide_eq_true (by rw [c1])) ?_; wp_walk using wpAny_loadPart' hl, wpAny_load hl))
    all_goals first | exact ⟨_, rfl, h⟩ | exact h | skip
theorem tuple_mul_zero (l : Addr) (items : Array Value) (n : Nat) (dd : Option Addr) (sl : Array (Option Value)) (x : Int) (u : Tok) (c0 : (decide (x < -(2 ^ 63)) || decide (x ≥ 2 ^ 63)) = false) (c1 : (items.isEmpty || x == 1) = false) (c2 : (decide (x ≤ 0) || items.isEmpty) = true) :
    Meets (Builtin.«tuple.__mul__» ⟨[.ref l, .int x u], []⟩) (fun _ R s => s.heap.get? l = some { cls := .type "tuple", dict := dd, data := .seq items n, slots := sl } ∧ 
      R (.ok (.ret (Value.ref s.heap.objs.size))) { s with heap := s.heap.push { cls := Value.type "tuple", data := Data.seq #[] }, toks := s.toks }) :=
  .of_wp fun prog w A R s h => by
    obtain ⟨hp, g, d, tk, os⟩ := s
    obtain ⟨hl, h⟩ := h
    have f1 := AutoSeq1.idx_int
    wp_walk using wpAny_loadPart' hl
    repeat (first
      | (refine wpAny_ite_false (decide_eq_false (by rw [c0]; exact Bool.false_ne_true)) ?_; wp_walk using wpAny_loadPart' hl)
      | (refine wpAny_ite_false (decide_eq_false (by rw [c1]; exact Bool.false_ne_true)) ?_; wp_walk using wpAny_loadPart' hl)
      | (refine wpAny_ite_true (decide_eq_true (by rw [c2])) ?_; wp_walk using wpAny_loadPart' hl))
    all_goals first | exact ⟨_, rfl, h⟩ | exact h | skip
def rRepTA (K : PySem.W.Frag) : R2 := fun x y H Q => ∃ l k xs, x = .ref l ∧ y = .int k ∧ SqT K H l xs ∧ 0 ≤ k ∧ k ≤ 1000 ∧ xs.length ≤ 1000 ∧ ((xs = [] ∨ k = 1) → Q (.ref l) H) ∧ (¬ (xs = [] ∨ k = 1) → ∀ p, H p = none → Q (.ref p) (upd H p (.tup (List.replicate k.toNat xs).flatten)))
section
variable {X : Cx}
theorem op_repTA : OpR X (binaryOp .Mult) (rRepTA X.K) := by
  intro pins s σ H x y v u Q I rx ry h
  obtain ⟨l, k, xs, rfl, rfl, hT, h1, h2, hz, q1, q2⟩ := h
  by_cases hsame : xs = [] ∨ k = 1
  · have q1 := q1 hsame
    cases rx
    obtain ⟨t, rfl⟩ := ry
    obtain ⟨its, r, ⟨⟨cls, dd, data, sl⟩, ho, hc, n, hd⟩, hs⟩ := I.tuple hT
    simp only at hc hd
    subst hc hd
    have hle : its.length = xs.length := r.length.symm
    have c0 : (decide (k < -(2 ^ 63)) || decide (k ≥ 2 ^ 63)) = false := by
      rw [decide_eq_false (by omega), decide_eq_false (by omega)] <;> rfl
    have c1 : (its.toArray.isEmpty || k == 1) = true := by
      rcases hsame with e | e
      · rw [e] at hle
        have : its = [] := List.eq_nil_of_length_eq_zero hle
        rw [this]
        rfl
      · rw [e]
        cases its <;> rfl
    refine wpAny_binaryOp_repeat_ref (T := "tuple") (U := "int") (by decide) ⟨_, ho, rfl⟩ (fun s' => typeIs_int s' k t) noFill_tuple_mul F.fills_int_mul F.slot_int_rmul repeat_tuple F.slot_int_index.lookup
      (call_meets F.slot_int_rmul (typeIs_int s k t) F.entry_int_rmul (F.args_int_rmul_2 _ _) (int_rmul_tuple k t l its.toArray n dd sl)
        ⟨ho, rfl, ⟨_, ho, rfl⟩, call_meets F.slot_tuple_mul ⟨_, ho, rfl⟩ F.entry_tuple_mul (F.args_tuple_mul_2 _ _) (tuple_mul_same l its.toArray n dd sl k t c0 c1) ⟨ho, ?_⟩⟩)
    exact ⟨.ref l, H, I, rfl, q1⟩
  · have q2 := q2 hsame
    have hne : xs ≠ [] := fun e => hsame (.inl e)
    have hk1 : k ≠ 1 := fun e => hsame (.inr e)
    by_cases hk : 2 ≤ k
    · exact op_repT pins s σ H _ _ v u Q I rx ry ⟨l, k, xs, rfl, rfl, hT, hne, hk, h2, hz, q2⟩
    · have hk0 : k = 0 := by omega
      subst hk0
      cases rx
      obtain ⟨t, rfl⟩ := ry
      obtain ⟨its, r, ⟨⟨cls, dd, data, sl⟩, ho, hc, n, hd⟩, hs⟩ := I.tuple hT
      simp only at hc hd
      subst hc hd
      have hle : its.length = xs.length := r.length.symm
      have hn : its ≠ [] := fun e => hne (by
        rw [e] at hle
        exact List.eq_nil_of_length_eq_zero hle.symm)
      have hi : its.toArray.isEmpty = false := by
        cases its with
        | nil => exact absurd rfl hn
        | cons a b => rfl
      refine wpAny_binaryOp_repeat_ref (T := "tuple") (U := "int") (by decide) ⟨_, ho, rfl⟩ (fun s' => typeIs_int s' 0 t) noFill_tuple_mul F.fills_int_mul F.slot_int_rmul repeat_tuple F.slot_int_index.lookup
        (call_meets F.slot_int_rmul (typeIs_int s 0 t) F.entry_int_rmul (F.args_int_rmul_2 _ _) (int_rmul_tuple 0 t l its.toArray n dd sl)
          ⟨ho, rfl, ⟨_, ho, rfl⟩, call_meets F.slot_tuple_mul ⟨_, ho, rfl⟩ F.entry_tuple_mul (F.args_tuple_mul_2 _ _) (tuple_mul_zero l its.toArray n dd sl 0 t (by decide) (by rw [hi]; rfl) (by rw [hi]; rfl)) ⟨ho, ?_⟩⟩)
      refine ⟨.ref s.heap.objs.size, _, I.laid (t' := s.toks) (o := .tup (List.replicate (0 : Int).toNat xs).flatten) (fun b ob q => Heap.get?_push_of_some _ q) (Nat.le_refl _) ?_, rfl, q2 _ (I.hok.fresh (Nat.le_refl _))⟩
      exact ⟨by show 0 ≤ sizeLine; decide, _, .nil, IsTup.new _ _⟩
end
end Lm

namespace Lm
open PySem L2 Evl
/-! ### own errors whose __init__ keeps one thing -/
/-- what the text says of an own error with __init__ -/
structure ErrF (K : PySem.W.Frag) (mg : Str → Option Value) (x : Str) (C fI : Addr) (fn : Str) : Prop where
  g : mg x = some (.ref C)
  T : OexC K C
  X : XfC K C
  ini : PySem.W.findIn K (.ref C) "__init__" = some (some (.ref fI))
  ty : PySem.W.typeIn K (.ref fI) = some (.type "function")
  no : PySem.W.findIn K (.ref C) fn = some none
  ic : PySem.W.isClsIn K C = true
  self : PySem.W.subIn K (.ref C) (.ref C) = some true
theorem ErrF.exm {K : PySem.W.Frag} {mg : Str → Option Value} {x : Str} {C fI : Addr} {fn : Str} (T : ErrF K mg x C fI fn) : PySem.W.exmOne K (.ref C) (.ref C) = some true := exm_self T.T.exC T.ic T.T.tyC T.self
def spErrI (C : Addr) (fn : Str) : Sp := fun vs H Q _ => ∃ (a : Addr) (v : V), vs = [.ref a, v] ∧ H a = some (exo a C none) ∧ ∀ dx, H dx = none → dx ≠ a → Q .non (upd (upd H dx (exd dx [(fn, v)])) a (exo a C (some dx)))
theorem go_mkO {C : Addr} {fn : Str} {te : TE} {σ : L2.St} {H : Hp} {Q : XK} {v : V} (h : Ev te σ H v) (k : ∀ H1 d, Ex H H1 → H1 d = none → Q (.ref C) (some d) (upd H1 d (.xd [(fn, v)]))) : tMkO C (spErrI C fn) [] (tCons te tNil) σ H Q :=
  h H (Ex.refl H) _ fun H1 e1 => ⟨by show 1 ≤ 1000; decide, fun a na => ⟨a, v, rfl, upd_same, fun dx ndx hda => ⟨rfl, dx, [(fn, v)], upd_same, by rw [upd_ne hda]; exact upd_same, by rw [upd_ne hda] at ndx; exact ndx, by
    have hn : H1 dx = none := by rw [upd_ne hda] at ndx; exact ndx
    have e : upd (del (upd (upd (upd H1 a (exo a C none)) dx (exd dx [(fn, v)])) a (exo a C (some dx))) a) dx (.xd [(fn, v)]) = upd H1 dx (.xd [(fn, v)]) := by
      funext b
      by_cases hb : b = dx
      · subst hb
        rw [upd_same, upd_same]
      · rw [upd_ne hb, upd_ne hb]
        by_cases hba : b = a
        · subst hba
          rw [del_same, na]
        · rw [del_ne hba, upd_ne hba, upd_ne hb, upd_ne hba]
    rw [e]
    exact k H1 dx e1 hn⟩⟩⟩
end Lm

namespace Lm
open PySem L2 PyProof.Rows PySem.Spec
section
variable {M : Model} {A : Around} {E : Value → Shared → Prop} {s : Shared} {K : PySem.W.Frag} {pos : Pos} {x C : Addr} {first : List Value} {Q : Value → Shared → Prop}
/-- the instance as it stands at each time -/
def InsK (K : PySem.W.Frag) (x C : Addr) (h : Heap) : Prop := ∃ ox od, K.In h ∧ PySem.W.InstAt h x ox C od ∧ ox.data = .plain
theorem callWith_ins {args : List (Bool × Sem Value)} {keywords : List (Option Str × Sem Value)} (hplain : (args.any (·.1) || keywords.any (·.1.isNone)) = false)
    (h : wpAny M A (evalArgs (.ref x) true args keywords) (fun a s₁ => InsK K x C s₁.heap ∧ wpAny M A (call (.ref x) (first ++ a.pos) a.kw) Q E s₁) E s) : wpAny M A (callWith pos (.ref x) first args keywords) Q E s := by
  unfold callWith
  refine wpAny_bind (wpAny_holding (wpAny_mono h (fun a s₁ h₁ => wpAny_bind (wpAny_standAt ?_)) fun _ _ y => y))
  obtain ⟨⟨ox, od, X, I, hd⟩, hc⟩ := h₁
  have L := PySem.W.kco_keeper (M := M) I hd
  simp only [hplain]
  refine wpAny_bind (L.here ?_)
  exact wpAny_bind (wpAny_mono (wpAny_operateT hc) (fun r s₂ hr => wpAny_bind (wpAny_holding (wpAny_point (wpAny_pure hr)))) fun _ _ y => y)
end
/-- what the text says of own __call__ -/
structure CallM (K : PySem.W.Frag) (C g : Addr) : Prop where
  at_ : PySem.W.findIn K (.ref C) "__call__" = some (some (.ref g))
  isF : PySem.W.isFn K (.ref g) = true
  fn : PySem.W.fnIn K g = true
/-- the i-th slot holds an instance, which is called -/
def tCallO (i : Nat) (C : Addr) (sp : Sp) (E : L2.St → XK) (t : TA) : TE := fun σ H Q => ∃ a, σ[i]? = some (some (.ref a)) ∧ t σ H fun vs H1 => (∃ dx fs, H1 a = some (.ins C dx fs)) ∧ sp (.ref a :: vs) H1 Q (E σ)
def tCallOk (i : Nat) (C : Addr) (n : Nat) (sp : Sp) (gV : List V → List V → List V) (E : XK) (tk : TA) : TE := fun σ H Q => ∃ a, σ[i]? = some (some (.ref a)) ∧ tk σ H fun zs H1 => (∃ dx fs, H1 a = some (.ins C dx fs)) ∧ zs.length = n ∧ sp (gV [.ref a] zs) H1 Q E
section
variable {X : Cx} {CX : CXT} {k i : Nat} {f C : Addr} {fd : FuncData} {ps ks : List Str} {sp : Sp} {x : Str} {p pos : Pos} {e : Expr} {es : List Expr} {kws : List Keyword} {t tk : TA} {g : List Value → List Value → List Value} {gV : List V → List V → List V}
theorem ins_k {pins : List (Addr × Obj)} {σ : L2.St} {H : Hp} {s : Shared} {a dx : Addr} {fs : List (Str × V)} (I : Inv X pins σ H s) (h : H a = some (.ins C dx fs)) : InsK X.K a C s.heap := by
  obtain ⟨mA, O, r, _, _, _⟩ := ins_get I.hok h
  obtain ⟨od, hI, _⟩ := O.look
  exact ⟨_, _, I.kIn, hI, rfl⟩
theorem pe_callO {E : L2.St → XK} (F : FnOk X.prog X.w X.K X.mg X.base CX k f fd ps sp) (hm : CallM X.K C f) (hr : Room k X.A) (hb : Binds X.K fd ps []) (hx : ∀ σ, PassesAt CX X σ (E σ)) (hN : X.N[i]? = some x) (hv : Vis X.env.scope x) (ha : PA X (e :: es) t)
    (hdb : (x == ("__debug__" : Str)) = false := by decide) (hcd : (x == ("__classdict__" : Str)) = false := by decide)
    (he : starEach (e :: es) X.env = (false, eval e X.env) :: starEach es X.env := by rfl) (hpl : (backTo pos (starEach es X.env)).any (·.1) = false := by rfl) : PE X (.Call (.Name x p) (e :: es) [] pos) (tCallO i C sp E t) := by
  refine ⟨fun pins s σ H Q I h => ?_⟩
  obtain ⟨a, hs, ht⟩ := h
  refine wpAny_Call_Name_kw (thn ((pe_var (pos := p) hN hv hdb hcd).run pins s σ H (fun v H1 => v = .ref a ∧ H1 = H) I ⟨.ref a, hs, rfl, rfl⟩) fun u s1 ⟨v, H1, I1, r1, q1⟩ => ?_)
  obtain ⟨rfl, rfl⟩ := q1
  cases r1
  rw [he]
  refine callWith_ins (K := X.K) (C := C) (by show ((false || (backTo pos (starEach es X.env)).any (·.1)) || false) = false; rw [hpl]; rfl) (PySem.Calls.evalArgs_plain ?_)
  have := ha.run pos pins s1 σ _ _ I1 ht
  rw [he] at this
  refine thn this fun us s2 ⟨vs, H2, I2, r, hi, q⟩ => ?_
  obtain ⟨dx, fs, hi⟩ := hi
  refine ⟨ins_k I2 hi, ?_⟩
  obtain ⟨ox, od, X1, J, hd⟩ := ins_k I2 hi
  have r2 : Vals (V.ref a :: vs) (Value.ref a :: us) := .cons rfl r
  have hl : (Value.ref a :: us ++ []).length = ps.length := by rw [List.append_nil, ← r2.length]; exact F.len _ _ _ _ q
  refine wpAny_call (PySem.W.kco_code X1 J hd hm.at_ hm.isF hm.fn ?_)
  refine codeAny_mono (F.run X.A X.stack s2 H2 ⟨Value.ref a :: us, []⟩ (Value.ref a :: us) (V.ref a :: vs) Q (E σ) hr I2.env0 (by have := hb s2 (Value.ref a :: us) I2.kIn hl; rw [List.append_nil] at this; exact this) r2 q) fun r s' hq => ?_
  cases r with
  | error e => exact hx σ pins H2 s2 e s' I2 hq
  | ok fl =>
    cases fl with
    | ret u => exact I2.after hq
    | next => exact False.elim hq
    | brk => exact False.elim hq
    | cont => exact False.elim hq
theorem pe_callOk {E : XK} (F : FnOk X.prog X.w X.K X.mg X.base CX k f fd ps sp) (hm : CallM X.K C f) (hr : Room k X.A) (hb : KBn X.K fd ps 1 ks g gV) (hx : Passes CX X E) (hN : X.N[i]? = some x) (hv : Vis X.env.scope x) (hkw : PK X kws tk)
    (hdb : (x == ("__debug__" : Str)) = false := by decide) (hcd : (x == ("__classdict__" : Str)) = false := by decide)
    (hall : (backToKw pos (keywordEach kws X.env)).all (·.1.isSome) = true := by rfl) (hks : (backToKw pos (keywordEach kws X.env)).filterMap (·.1) = ks := by rfl)
    (hpl : ((backTo pos (starEach [] X.env)).any (·.1) || (backToKw pos (keywordEach kws X.env)).any (·.1.isNone)) = false := by rfl) : PE X (.Call (.Name x p) [] kws pos) (tCallOk i C ks.length sp gV E tk) := by
  refine ⟨fun pins s σ H Q I h => ?_⟩
  obtain ⟨a, hs, ht⟩ := h
  refine wpAny_Call_Name_kw (thn ((pe_var (pos := p) hN hv hdb hcd).run pins s σ H (fun v H1 => v = .ref a ∧ H1 = H) I ⟨.ref a, hs, rfl, rfl⟩) fun u s1 ⟨v, H1, I1, r1, q1⟩ => ?_)
  obtain ⟨rfl, rfl⟩ := q1
  cases r1
  refine callWith_ins (K := X.K) (C := C) hpl (evalArgs_kw2_nil hall ?_)
  refine thn (hkw.run pos pins s1 σ _ _ I1 ht) fun ws s2 ⟨zs, H2, I2, rz, hi, l2, q⟩ => ?_
  obtain ⟨dx, fs, hi⟩ := hi
  rw [hks]
  refine ⟨ins_k I2 hi, ?_⟩
  obtain ⟨ox, od, X1, J, hd⟩ := ins_k I2 hi
  have r2 := hb.rel (vs := [V.ref a]) (us := [Value.ref a]) (.cons rfl .nil) rz
  show wpAny _ _ (call (.ref a) [] (ks.zip ws)) _ _ _
  refine wpAny_call (PySem.W.kco_code X1 J hd hm.at_ hm.isF hm.fn ?_)
  refine codeAny_mono (F.run X.A X.stack s2 H2 ⟨[.ref a], ks.zip ws⟩ (g [.ref a] ws) (gV [.ref a] zs) Q E hr I2.env0 (hb.to s2 [.ref a] ws I2.kIn rfl (rz.length.symm.trans l2)) r2 q) fun r s' hq => ?_
  cases r with
  | error e => exact hx pins σ H2 s2 e s' I2 hq
  | ok fl =>
    cases fl with
    | ret u => exact I2.after hq
    | next => exact False.elim hq
    | brk => exact False.elim hq
    | cont => exact False.elim hq
end
end Lm

namespace Lm
open PySem L2
/-! ### editions as truths over the numbers of the passages -/
def idx (N : Nat) (S : Nat → Bool) : List Nat := (List.range N).filter S
def cnt (S : Nat → Bool) (c : Nat) : Nat := (idx c S).length
def cutsL (N : Nat) (S : Nat → Bool) : List Nat := 0 :: (idx N S).map (· + 1)
def countsL (N : Nat) (S : Nat → Bool) : List Nat := (List.range (N + 1)).map (cnt S)
def ker (S : Nat → Bool) : Nat → Nat
  | 0 => 0
  | c + 1 => if S c = true then c + 1 else ker S c
def no : Str := ⟨#[]⟩
def pick (ws : List Str) (S : Nat → Bool) : List Str := (idx ws.length S).map fun i => ws.getD i no
theorem idx_mem {N : Nat} {S : Nat → Bool} {i : Nat} : i ∈ idx N S ↔ i < N ∧ S i = true := by unfold idx; rw [List.mem_filter, List.mem_range]
theorem idx_sorted (N : Nat) (S : Nat → Bool) : (idx N S).Pairwise (· < ·) := List.Pairwise.filter _ List.pairwise_lt_range
theorem idx_succ (c : Nat) (S : Nat → Bool) : idx (c + 1) S = idx c S ++ (if S c = true then [c] else []) := by
  unfold idx
  rw [List.range_succ, List.filter_append]
  by_cases h : S c = true <;> simp [h]
theorem idx_len (N : Nat) (S : Nat → Bool) : (idx N S).length ≤ N := by
  unfold idx
  exact Nat.le_trans (List.length_filter_le _ _) (by simp)
theorem cnt_zero (S : Nat → Bool) : cnt S 0 = 0 := rfl
theorem cnt_succ (S : Nat → Bool) (c : Nat) : cnt S (c + 1) = cnt S c + if S c = true then 1 else 0 := by
  unfold cnt
  rw [idx_succ, List.length_append]
  by_cases h : S c = true <;> simp [h]
theorem cnt_mono {S : Nat → Bool} {a b : Nat} (h : a ≤ b) : cnt S a ≤ cnt S b := by
  induction b with
  | zero => have : a = 0 := by omega
            subst this; exact Nat.le_refl _
  | succ b ih =>
    rcases Nat.lt_or_ge a (b + 1) with h1 | h1
    · have := ih (by omega)
      rw [cnt_succ]; omega
    · have : a = b + 1 := by omega
      subst this; exact Nat.le_refl _
theorem idx_pre (S : Nat → Bool) (c d : Nat) : ∃ t, idx (c + d) S = idx c S ++ t := by
  unfold idx
  exact ⟨_, by rw [List.range_add, List.filter_append]⟩
theorem cutsL_len (N : Nat) (S : Nat → Bool) : (cutsL N S).length = cnt S N + 1 := by unfold cutsL cnt; simp
theorem cutsL_succ (c : Nat) (S : Nat → Bool) : cutsL (c + 1) S = cutsL c S ++ (if S c = true then [c + 1] else []) := by
  unfold cutsL
  rw [idx_succ]
  by_cases h : S c = true <;> simp [h]
theorem cuts_last (S : Nat → Bool) : ∀ c, (cutsL c S)[cnt S c]? = some (ker S c)
  | 0 => rfl
  | c + 1 => by
    rw [cutsL_succ, cnt_succ]
    by_cases h : S c = true
    · have hl := cutsL_len c S
      rw [if_pos h, if_pos h, List.getElem?_append_right (by omega), hl, Nat.sub_self]
      show some (c + 1) = some (ker S (c + 1))
      unfold ker
      rw [if_pos h]
    · rw [if_neg h, if_neg h, List.append_nil, Nat.add_zero, cuts_last S c]
      show some (ker S c) = some (ker S (c + 1))
      rw [show ker S (c + 1) = ker S c from by rw [ker]; exact if_neg h]
theorem cuts_at {N c : Nat} (S : Nat → Bool) (h : c ≤ N) : (cutsL N S)[cnt S c]? = some (ker S c) := by
  obtain ⟨t, ht⟩ := idx_pre S c (N - c)
  have e : c + (N - c) = N := by omega
  rw [e] at ht
  have e2 : cutsL N S = cutsL c S ++ t.map (· + 1) := by
    unfold cutsL
    rw [ht]
    simp
  rw [e2, List.getElem?_append_left (by rw [cutsL_len]; omega)]
  exact cuts_last S c
theorem cuts_mem {N c : Nat} {S : Nat → Bool} : c + 1 ∈ cutsL N S ↔ c < N ∧ S c = true := by
  unfold cutsL
  simp only [List.mem_cons, List.mem_map]
  constructor
  · rintro (h | ⟨a, ha, e⟩)
    · omega
    · have : a = c := by omega
      subst this; exact idx_mem.mp ha
  · intro h
    exact .inr ⟨c, idx_mem.mpr h, rfl⟩
theorem counts_at' {N c : Nat} (S : Nat → Bool) (h : c ≤ N) : (countsL N S)[c]? = some (cnt S c) := by
  unfold countsL
  rw [List.getElem?_map, List.getElem?_range (by omega)]
  rfl
/-! ### kernels -/
theorem ker_le (S : Nat → Bool) : ∀ c, ker S c ≤ c
  | 0 => Nat.le_refl _
  | c + 1 => by
    unfold ker
    by_cases h : S c = true
    · rw [if_pos h]; exact Nat.le_refl _
    · rw [if_neg h]; exact Nat.le_succ_of_le (ker_le S c)
theorem ker_fix (S : Nat → Bool) : ∀ c, ker S c = c ↔ c = 0 ∨ ∃ d, c = d + 1 ∧ S d = true
  | 0 => by simp [ker]
  | c + 1 => by
    have hl := ker_le S c
    unfold ker
    by_cases h : S c = true
    · simp [h]
    · simp [h]
      omega
theorem ker_idem (S : Nat → Bool) : ∀ c, ker S (ker S c) = ker S c
  | 0 => rfl
  | c + 1 => by
    by_cases h : S c = true
    · have e : ker S (c + 1) = c + 1 := by rw [ker]; exact if_pos h
      rw [e, e]
    · have e : ker S (c + 1) = ker S c := by rw [ker]; exact if_neg h
      rw [e]; exact ker_idem S c
theorem ker_mono1 (S : Nat → Bool) (c : Nat) : ker S c ≤ ker S (c + 1) := by
  rw [ker]
  have := ker_le S c
  split <;> omega
theorem ker_mono (S : Nat → Bool) {a b : Nat} (h : a ≤ b) : ker S a ≤ ker S b := by
  induction b with
  | zero => have : a = 0 := by omega
            subst this; exact Nat.le_refl _
  | succ b ih =>
    rcases Nat.lt_or_ge a (b + 1) with h1 | h1
    · exact Nat.le_trans (ih (by omega)) (ker_mono1 S b)
    · have : a = b + 1 := by omega
      subst this; exact Nat.le_refl _
/-- the greatest cut not above at which the edition stands -/
theorem ker_ge {S : Nat → Bool} {d c : Nat} (h : d ≤ c) (hd : ker S d = d) : d ≤ ker S c := by
  have := ker_mono S h
  omega
theorem ker_or (S T : Nat → Bool) : ∀ c, ker (fun i => S i || T i) c = max (ker S c) (ker T c)
  | 0 => rfl
  | c + 1 => by
    have h1 := ker_le S c
    have h2 := ker_le T c
    have ih := ker_or S T c
    unfold ker
    by_cases a : S c = true <;> by_cases b : T c = true <;> simp [a, b, ih] <;> omega
theorem ker_congr {S T : Nat → Bool} : ∀ c, (∀ i < c, S i = T i) → ker S c = ker T c
  | 0, _ => rfl
  | c + 1, h => by
    unfold ker
    rw [h c (by omega), ker_congr c fun i hi => h i (by omega)]
theorem ker_all : ∀ c, ker (fun _ => true) c = c
  | 0 => rfl
  | c + 1 => by simp [ker]
theorem ker_none : ∀ c, ker (fun _ => false) c = 0
  | 0 => rfl
  | c + 1 => by
    rw [ker]
    simp [ker_none c]
theorem ker_sub {S T : Nat → Bool} {N : Nat} : (∀ i < N, S i = true → T i = true) ↔ ∀ c ≤ N, ker S c ≤ ker T c := by
  constructor
  · intro h c hc
    have h1 : ker T (ker S c) = ker S c := by
      rw [ker_fix]
      rcases (ker_fix S (ker S c)).mp (ker_idem S c) with e | ⟨d, e, hd⟩
      · exact .inl e
      · have := ker_le S c
        exact .inr ⟨d, e, h d (by omega) hd⟩
    exact ker_ge (ker_le S c) h1
  · intro h i hi hS
    have h1 := h (i + 1) (by omega)
    have h2 : ker S (i + 1) = i + 1 := by rw [ker]; exact if_pos hS
    have h3 := ker_le T (i + 1)
    have h4 : ker T (i + 1) = i + 1 := by omega
    rcases (ker_fix T (i + 1)).mp h4 with e | ⟨d, e, hd⟩
    · omega
    · have : d = i := by omega
      subst this; exact hd
/-- so many passages end at a cut at most just if the cut is at least behind them -/
theorem cuts_le_iff {N c n : Nat} {S : Nat → Bool} {x : Nat} (hc : c ≤ N) (h : (cutsL N S)[n]? = some x) : x ≤ c ↔ n ≤ cnt S c := by
  have srt : (cutsL N S).Pairwise (· < ·) := by
    unfold cutsL
    refine List.pairwise_cons.mpr ⟨fun a ha => ?_, ?_⟩
    · obtain ⟨b, _, e⟩ := List.mem_map.mp ha
      omega
    · refine List.Pairwise.map _ (fun a b hab => ?_) (idx_sorted N S)
      omega
  have hk := cuts_at S hc
  obtain ⟨l1, e1⟩ := List.getElem?_eq_some_iff.mp h
  obtain ⟨l2, e2⟩ := List.getElem?_eq_some_iff.mp hk
  have hkl := ker_le S c
  constructor
  · intro hx
    rcases Nat.lt_or_ge (cnt S c) n with hn | hn
    · exfalso
      have h1 := List.pairwise_iff_getElem.mp srt (cnt S c) n l2 l1 hn
      rw [e1, e2] at h1
      -- x stands in S and is at most c, so it is at most the kernel
      cases n with
      | zero => omega
      | succ n =>
        have h2 : x ∈ (idx N S).map (· + 1) := by
          unfold cutsL at h
          have : ((idx N S).map (· + 1))[n]? = some x := h
          exact List.mem_of_getElem? this
        obtain ⟨d, hd, e⟩ := List.mem_map.mp h2
        have e : d + 1 = x := e
        have h3 : ker S x = x := (ker_fix S x).mpr (.inr ⟨d, e.symm, (idx_mem.mp hd).2⟩)
        have := ker_ge hx h3
        omega
    · exact hn
  · intro hn
    rcases Nat.lt_or_ge n (cnt S c) with h1 | h1
    · have h2 := List.pairwise_iff_getElem.mp srt n (cnt S c) l1 l2 h1
      rw [e1, e2] at h2
      omega
    · have : n = cnt S c := by omega
      subst this
      rw [hk] at h
      have := Option.some.inj h
      omega
theorem cnt_cuts {N n : Nat} {S : Nat → Bool} {x : Nat} (h : (cutsL N S)[n]? = some x) : x ≤ N ∧ cnt S x = n := by
  have hn : n ≤ cnt S N := by
    have := (List.getElem?_eq_some_iff.mp h).1
    rw [cutsL_len] at this
    omega
  have hx : x ≤ N := (cuts_le_iff (Nat.le_refl N) h).mpr hn
  refine ⟨hx, ?_⟩
  have h1 := (cuts_le_iff hx h).mp (Nat.le_refl _)
  rcases Nat.lt_or_ge n (cnt S x) with h2 | h2
  · exfalso
    have hk := cuts_at S hx
    have h3 := (cuts_le_iff (c := x) hx (n := n + 1) (x := (cutsL N S).getD (n + 1) 0) ?_).mpr h2
    · have srt : (cutsL N S).Pairwise (· < ·) := by
        unfold cutsL
        refine List.pairwise_cons.mpr ⟨fun a ha => ?_, ?_⟩
        · obtain ⟨b, _, e⟩ := List.mem_map.mp ha
          omega
        · refine List.Pairwise.map _ (fun a b hab => ?_) (idx_sorted N S)
          omega
      have l2 : n + 1 < (cutsL N S).length := by
        have := (List.getElem?_eq_some_iff.mp hk).1
        omega
      obtain ⟨l1, e1⟩ := List.getElem?_eq_some_iff.mp h
      have h4 := List.pairwise_iff_getElem.mp srt n (n + 1) l1 l2 (by omega)
      rw [List.getD_eq_getElem?_getD, List.getElem?_eq_getElem l2] at h3
      simp at h3
      omega
    · have l2 : n + 1 < (cutsL N S).length := by
        have := (List.getElem?_eq_some_iff.mp hk).1
        omega
      rw [List.getD_eq_getElem?_getD, List.getElem?_eq_getElem l2]
      rfl
  · omega
end Lm

namespace Lm
open PySem L2
/-! ### walks: what is told, what rests -/
def tellW (Ss : List (Nat → Bool)) (c : Nat) : Nat := Ss.foldl (fun c S => ker S c) c
def allS (Ss : List (Nat → Bool)) : Nat → Bool := fun k => Ss.all fun S => S k
theorem tell_nil (c : Nat) : tellW [] c = c := rfl
theorem tell_cons (S : Nat → Bool) (Ss : List (Nat → Bool)) (c : Nat) : tellW (S :: Ss) c = tellW Ss (ker S c) := rfl
theorem tell_app (Ss Ts : List (Nat → Bool)) (c : Nat) : tellW (Ss ++ Ts) c = tellW Ts (tellW Ss c) := List.foldl_append
theorem tell_le : ∀ (Ss : List (Nat → Bool)) (c : Nat), tellW Ss c ≤ c
  | [], c => Nat.le_refl c
  | S :: Ss, c => Nat.le_trans (tell_le Ss (ker S c)) (ker_le S c)
theorem tell_ge : ∀ (Ss : List (Nat → Bool)) {d c : Nat}, d ≤ c → (∀ S ∈ Ss, ker S d = d) → d ≤ tellW Ss c
  | [], _, _, h, _ => h
  | S :: Ss, d, c, h, hd => by
    rw [tell_cons]
    exact tell_ge Ss (ker_ge h (hd S List.mem_cons_self)) fun T hT => hd T (List.mem_cons_of_mem _ hT)
theorem tell_fix : ∀ {Ss : List (Nat → Bool)} {c : Nat}, tellW Ss c = c ↔ ∀ S ∈ Ss, ker S c = c
  | [], c => ⟨fun _ S h => (List.not_mem_nil h).elim, fun _ => rfl⟩
  | S :: Ss, c => by
    have h1 := tell_le Ss (ker S c)
    have h2 := ker_le S c
    rw [tell_cons]
    constructor
    · intro h
      have e : ker S c = c := by omega
      rw [e] at h
      intro T hT
      rcases List.mem_cons.mp hT with z | z
      · rw [z]; exact e
      · exact tell_fix.mp h T z
    · intro h
      rw [h S List.mem_cons_self]
      exact tell_fix.mpr fun T hT => h T (List.mem_cons_of_mem _ hT)
theorem all_fix {Ss : List (Nat → Bool)} {c : Nat} : (∀ S ∈ Ss, ker S c = c) ↔ ker (allS Ss) c = c := by
  rw [ker_fix]
  constructor
  · intro h
    cases c with
    | zero => exact .inl rfl
    | succ d =>
      refine .inr ⟨d, rfl, List.all_eq_true.mpr fun S hS => ?_⟩
      rcases (ker_fix S (d + 1)).mp (h S hS) with z | ⟨e, z, q⟩
      · omega
      · have : e = d := by omega
        rw [this] at q; exact q
  · rintro (z | ⟨d, rfl, h⟩) S hS
    · rw [z]; rfl
    · exact (ker_fix S (d + 1)).mpr (.inr ⟨d, rfl, List.all_eq_true.mp h S hS⟩)
theorem tell_fix_all {Ss : List (Nat → Bool)} {c : Nat} : tellW Ss c = c ↔ ker (allS Ss) c = c := tell_fix.trans all_fix
/-! ### the way to rest -/
def course (T : Nat → Nat) (c : Nat) : List Nat := if h : T c < c then c :: course T (T c) else [c]
termination_by c
def restT (T : Nat → Nat) (c : Nat) : Nat := if h : T c < c then restT T (T c) else c
termination_by c
def turnsT (T : Nat → Nat) (c : Nat) : Nat := if h : T c < c then turnsT T (T c) + 1 else 0
termination_by c
theorem course_lt {T : Nat → Nat} {c : Nat} (h : T c < c) : course T c = c :: course T (T c) := by rw [course, dif_pos h]
theorem course_eq {T : Nat → Nat} {c : Nat} (h : ¬ T c < c) : course T c = [c] := by rw [course, dif_neg h]
theorem rest_lt {T : Nat → Nat} {c : Nat} (h : T c < c) : restT T c = restT T (T c) := by rw [restT, dif_pos h]
theorem rest_eq {T : Nat → Nat} {c : Nat} (h : ¬ T c < c) : restT T c = c := by rw [restT, dif_neg h]
theorem turns_lt {T : Nat → Nat} {c : Nat} (h : T c < c) : turnsT T c = turnsT T (T c) + 1 := by rw [turnsT, dif_pos h]
theorem turns_eq {T : Nat → Nat} {c : Nat} (h : ¬ T c < c) : turnsT T c = 0 := by rw [turnsT, dif_neg h]
theorem course_len {T : Nat → Nat} (c : Nat) : (course T c).length = turnsT T c + 1 := by
  induction c using Nat.strongRecOn with
  | _ c ih =>
    by_cases h : T c < c
    · rw [course_lt h, turns_lt h, List.length_cons, ih _ h]
    · rw [course_eq h, turns_eq h]; rfl
theorem course_last {T : Nat → Nat} (c : Nat) : ∃ pre, course T c = pre ++ [restT T c] := by
  induction c using Nat.strongRecOn with
  | _ c ih =>
    by_cases h : T c < c
    · obtain ⟨pre, e⟩ := ih _ h
      exact ⟨c :: pre, by rw [course_lt h, rest_lt h, e]; rfl⟩
    · exact ⟨[], by rw [course_eq h, rest_eq h]; rfl⟩
theorem course_le {T : Nat → Nat} (c : Nat) : ∀ x ∈ course T c, x ≤ c := by
  induction c using Nat.strongRecOn with
  | _ c ih =>
    by_cases h : T c < c
    · rw [course_lt h]
      intro x hx
      rcases List.mem_cons.mp hx with z | z
      · omega
      · have := ih _ h x z; omega
    · rw [course_eq h]
      intro x hx
      rw [List.mem_singleton.mp hx]; exact Nat.le_refl _
theorem turns_le {T : Nat → Nat} (c : Nat) : turnsT T c ≤ c := by
  induction c using Nat.strongRecOn with
  | _ c ih =>
    by_cases h : T c < c
    · rw [turns_lt h]; have := ih _ h; omega
    · rw [turns_eq h]; omega
theorem rest_le {T : Nat → Nat} (c : Nat) : restT T c ≤ c := by
  obtain ⟨pre, e⟩ := course_last (T := T) c
  exact course_le (T := T) c _ (by rw [e]; simp)
theorem rest_fix {T : Nat → Nat} (hT : ∀ c, T c ≤ c) (c : Nat) : T (restT T c) = restT T c := by
  induction c using Nat.strongRecOn with
  | _ c ih =>
    by_cases h : T c < c
    · rw [rest_lt h]; exact ih _ h
    · rw [rest_eq h]; have := hT c; omega
theorem rest_ge {T : Nat → Nat} {d : Nat} (hd : ∀ c, d ≤ c → d ≤ T c) (c : Nat) (h : d ≤ c) : d ≤ restT T c := by
  induction c using Nat.strongRecOn with
  | _ c ih =>
    by_cases hc : T c < c
    · rw [rest_lt hc]; exact ih _ hc (hd c h)
    · rw [rest_eq hc]; exact h
/-- the rest is the kernel of what all editions have -/
theorem rest_all (Ss : List (Nat → Bool)) (c : Nat) : restT (tellW Ss) c = ker (allS Ss) c := by
  have h1 : ker (allS Ss) c ≤ restT (tellW Ss) c := rest_ge (fun x hx => tell_ge Ss hx (all_fix.mpr (ker_idem _ _))) c (ker_le _ _)
  have h2 : restT (tellW Ss) c ≤ ker (allS Ss) c := ker_ge (rest_le c) (tell_fix_all.mp (rest_fix (tell_le Ss) c))
  omega
def iter (T : Nat → Nat) : Nat → Nat → Nat
  | 0, c => c
  | n + 1, c => iter T n (T c)
theorem iter_fix {T : Nat → Nat} {c : Nat} (h : T c = c) : ∀ n, iter T n c = c
  | 0 => rfl
  | n + 1 => by show iter T n (T c) = c; rw [h]; exact iter_fix h n
theorem iter_rest {T : Nat → Nat} (hT : ∀ c, T c ≤ c) (c n : Nat) (h : turnsT T c ≤ n) : iter T n c = restT T c := by
  induction c using Nat.strongRecOn generalizing n with
  | _ c ih =>
    by_cases hc : T c < c
    · rw [turns_lt hc] at h
      cases n with
      | zero => omega
      | succ n => rw [rest_lt hc]; exact ih _ hc n (by omega)
    · have e : T c = c := by have := hT c; omega
      rw [rest_eq hc, iter_fix e]
theorem iter_short {T : Nat → Nat} (hT : ∀ c, T c ≤ c) (c n : Nat) (h : n < turnsT T c) : iter T n c ≠ restT T c := by
  induction c using Nat.strongRecOn generalizing n with
  | _ c ih =>
    by_cases hc : T c < c
    · rw [turns_lt hc] at h
      rw [rest_lt hc]
      cases n with
      | zero =>
        have := rest_le (T := T) (T c)
        show c ≠ _
        omega
      | succ n => exact ih _ hc n (by omega)
    · rw [turns_eq hc] at h; omega
theorem tell_rep (Ss : List (Nat → Bool)) : ∀ n c, tellW (List.replicate n Ss).flatten c = iter (tellW Ss) n c
  | 0, _ => rfl
  | n + 1, c => by
    rw [List.replicate_succ, List.flatten_cons, tell_app, tell_rep Ss n]
    rfl
theorem tell_perm_all {Ss Ts : List (Nat → Bool)} (h : Ss.Perm Ts) : allS Ss = allS Ts := by
  funext k
  unfold allS
  exact Bool.eq_iff_iff.mpr (by rw [List.all_eq_true, List.all_eq_true]; exact ⟨fun a S hS => a S (h.mem_iff.mpr hS), fun a S hS => a S (h.mem_iff.mp hS)⟩)
/-! ### the most, and the first that has it -/
def bestF (f : Nat → Nat) : Nat → Nat × Nat
  | 0 => (0, 0)
  | n + 1 => if (bestF f n).1 < f n then (f n, n) else bestF f n
structure Best (f : Nat → Nat) (n : Nat) (m l : Nat) : Prop where
  lt : l < n
  at_ : f l = m
  le : ∀ j < n, f j ≤ m
  first : ∀ j < l, f j < m
theorem best_ok (f : Nat → Nat) : ∀ n, Best f (n + 1) (bestF f (n + 1)).1 (bestF f (n + 1)).2
  | 0 => by
    have e : bestF f 1 = if 0 < f 0 then (f 0, 0) else (0, 0) := rfl
    rw [e]
    split
    · exact ⟨Nat.one_pos, rfl, fun j hj => by have : j = 0 := by omega
                                              rw [this]; exact Nat.le_refl _, fun j hj => absurd hj (Nat.not_lt_zero _)⟩
    · exact ⟨Nat.one_pos, by show f 0 = 0; omega, fun j hj => by have : j = 0 := by omega
                                                                 rw [this]; show f 0 ≤ 0; omega, fun j hj => absurd hj (Nat.not_lt_zero _)⟩
  | n + 1 => by
    have ih := best_ok f n
    have e : bestF f (n + 1 + 1) = if (bestF f (n + 1)).1 < f (n + 1) then (f (n + 1), n + 1) else bestF f (n + 1) := rfl
    rw [e]
    split
    · rename_i h
      refine ⟨by show n + 1 < _; omega, rfl, fun j hj => ?_, fun j hj => ?_⟩
      · rcases Nat.lt_or_ge j (n + 1) with z | z
        · exact Nat.le_of_lt (Nat.lt_of_le_of_lt (ih.le j z) h)
        · have : j = n + 1 := by omega
          rw [this]; exact Nat.le_refl _
      · exact Nat.lt_of_le_of_lt (ih.le j hj) h
    · rename_i h
      refine ⟨by have := ih.lt; omega, ih.at_, fun j hj => ?_, ih.first⟩
      rcases Nat.lt_or_ge j (n + 1) with z | z
      · exact ih.le j z
      · have : j = n + 1 := by omega
        rw [this]; omega
theorem Best.unique {f : Nat → Nat} {n m l m' l' : Nat} (a : Best f n m l) (b : Best f n m' l') : m = m' ∧ l = l' := by
  have e : m = m' := by
    have h1 := b.le l a.lt
    have h2 := a.le l' b.lt
    rw [a.at_] at h1
    rw [b.at_] at h2
    omega
  subst e
  refine ⟨rfl, ?_⟩
  rcases Nat.lt_trichotomy l l' with h | h | h
  · have := b.first l h; rw [a.at_] at this; omega
  · exact h
  · have := a.first l' h; rw [b.at_] at this; omega
theorem best_head {f : Nat → Nat} {n m l : Nat} (b : Best f n m l) : ((List.range n).filter fun k => decide (f k = m))[0]? = some l := by
  have key : ∀ k, l < k → k ≤ n → ((List.range k).filter fun k => decide (f k = m))[0]? = some l := by
    intro k
    induction k with
    | zero => intro h; omega
    | succ k ih =>
      intro h hk
      rw [List.range_succ, List.filter_append]
      rcases Nat.lt_or_ge l k with z | z
      · have := ih z (by omega)
        have hp : 0 < ((List.range k).filter fun k => decide (f k = m)).length := (List.getElem?_eq_some_iff.mp this).1
        rw [List.getElem?_append_left hp]
        exact this
      · have e : k = l := by omega
        subst e
        have : (List.range k).filter (fun k => decide (f k = m)) = [] := List.filter_eq_nil_iff.mpr fun j hj => by
          have := b.first j (List.mem_range.mp hj)
          simp; omega
        rw [this, List.nil_append, List.filter_cons_of_pos (by simpa using b.at_)]
        rfl
  exact key n b.lt (Nat.le_refl _)
end Lm

namespace Lm
open PySem L2
def top (i : Nat) : Stmt := PySem.Challenge.pw_leafmarks_k13_walks_called.main.body.getD i (.Pass ⟨0, 0, 0, 0⟩)
end Lm

namespace Lm
open PySem L2
/-- what the walk asks of the built-in names -/
structure Blt (mg : Str → Option Value) : Prop where
  b_len : mg "len" = none
  b_int : mg "int" = none
  b_range : mg "range" = none
  b_enumerate : mg "enumerate" = none
  b_isinstance : mg "isinstance" = none
  b_list : mg "list" = none
  b_tuple : mg "tuple" = none
  b_str : mg "str" = none
  b_bool : mg "bool" = none
  b_all : mg "all" = none
  b_max : mg "max" = none
  b_zip : mg "zip" = none
section
variable {P : Program} {w : World} {K : PySem.W.Frag} {mg : Str → Option Value} {base : Heap} {f : Addr} {fd : FuncData}
def spFresh (K : PySem.W.Frag) : Sp := fun vs H Q _ => ∃ (a : Addr) (ns : List Int), vs = [.ref a] ∧ SqL K H a (ns.map V.int) ∧ ns.length ≤ 63 ∧ ∀ p c H', H p = none → H c = none → Same H H' → StAt H' p c → Q (.ref p) H'
abbrev s_fresh : Stmt := top 30
theorem sc_fresh : FnScope ["_law_script"] ["_law_script"] (defScope s_fresh) := ⟨rfl, rfl, rfl, by decide +kernel, rfl, by decide +kernel, by decide +kernel⟩
theorem ok_fresh (F : Fun K "_law_fresh" "_law_fresh" s_fresh f fd) (T : Blt mg) : FnOk P w K mg base CX0 1 f fd ["_law_script"] (spFresh K) := by
  refine F.ok sc_fresh (fun vs H Q E h => ?_) (fun cdv A outer s H vs Q E hr h => ?_)
  · obtain ⟨a, ns, rfl, _⟩ := h
    rfl
  · obtain ⟨a, ns, rfl, hS, hl, k⟩ := h
    refine ⟨_, (pss_one (ps_ret (pe_lst (pa_cons (pe_slice sl_list (pv 0) po_none (po_some pe_int)) (pa_cons pe_int (pa_cons pe_int (pa_cons pe_bl pa_nil))))))), ?_⟩
    have hc : cutV (ns.map V.int) none (some 63) = (ns.map V.int) := by
      have e : (ns.map V.int).length = ns.length := List.length_map ..
      unfold cutV
      rw [HT.sIx_none, show (some (63 : Int)) = some ((63 : Nat) : Int) from rfl, HT.sIx_nat, List.drop_zero, e, Nat.min_eq_right hl, Nat.sub_zero, ← e, List.take_length]
    refine ⟨_, rfl, ⟨63, rfl, a, _, rfl, hS, fun c nc => ⟨by show 4 ≤ sizeLine; decide, fun p np => ?_⟩⟩⟩
    have hpc : p ≠ c := (ne_of_none upd_same np).symm
    have np' : H p = none := by rw [← upd_ne (H := H) (o := .lst (cutV (ns.map V.int) none (some 63))) hpc]; exact np
    refine k p c _ np' nc ((Same.upd' nc).trans (Same.upd' np)) ⟨⟨0, 0, false, upd_same⟩, ⟨ns, ?_, hl⟩, hpc.symm⟩
    rw [upd_ne hpc.symm, upd_same, hc]
end
end Lm

namespace Lm
open PySem L2
theorem mem_at {xs : List V} {i : Nat} {x : V} (h : xs[i]? = some x) : x ∈ xs := List.mem_of_getElem? h
theorem fmod_bd (a : Int) {p : Int} (h : 0 < p) : 0 ≤ Int.fmod a p ∧ Int.fmod a p < p := ⟨Int.fmod_nonneg_of_pos a h, Int.fmod_lt_of_pos a h⟩
/-- exactly evaluated: a value, the heap as it was -/
def Vx (te : TE) (σ : St) (H : Hp) (v : V) : Prop := ∀ Q : VK, Q v H → te σ H Q
theorem vx_or {ta tb : TE} {σ : St} {H : Hp} {a b : Bool} (h1 : Vx ta σ H (.bl a)) (h2 : Vx tb σ H (.bl b)) : Vx (tOrV ta tb) σ H (.bl (a || b)) := by
  intro Q q
  refine h1 _ ⟨a, rfl, ?_⟩
  cases a
  · exact iteF (h2 _ q)
  · exact iteT q
theorem vx_and {ta tb : TE} {σ : St} {H : Hp} {a b : Bool} (h1 : Vx ta σ H (.bl a)) (h2 : Vx tb σ H (.bl b)) : Vx (tAndV ta tb) σ H (.bl (a && b)) := by
  intro Q q
  refine h1 _ ⟨a, rfl, ?_⟩
  cases a
  · exact iteF q
  · exact iteT (h2 _ q)
theorem sq_asgB {te : TE} {g : TG} {tz : TS} {D : Ends} {σ : St} {H : Hp} (h : ∀ Q : VK, (∀ b : Bool, Q (.bl b) H) → te σ H Q) (k : ∀ b : Bool, g (.bl b) σ H (tz D)) : tSeq (tAsg te g) tz D σ H := h _ k
section
variable {P : Program} {w : World} {K : PySem.W.Frag} {mg : Str → Option Value} {base : Heap} {f : Addr} {fd : FuncData}
def spFill : Sp := fun vs H Q _ => ∃ (st c : Addr), vs = [.ref st] ∧ StAt H st c ∧ ∀ H', StAt H' st c → Kp st H H' → Q .non H'
abbrev s_fill : Stmt := top 31
theorem sc_fill : FnScope ["_law_state", "_law_cells", "_law_nth", "_law_seed", "_law_k", "_law_prime", "_law_far"] ["_law_state"] (defScope s_fill) := ⟨rfl, rfl, rfl, by decide +kernel, rfl, by decide +kernel, by decide +kernel⟩
theorem ok_fill (F : Fun K "_law_fill" "_law_fill" s_fill f fd) (T : Blt mg) : FnOk P w K mg base CX0 1 f fd ["_law_state"] spFill := by
  refine F.ok sc_fill (fun vs H Q E h => ?_) (fun cdv A outer s H vs Q E hr h => ?_)
  · obtain ⟨st, c, rfl, _⟩ := h
    rfl
  · obtain ⟨st, c, rfl, S, k⟩ := h
    obtain ⟨⟨n, l, b, h1⟩, ⟨ns, h2, hl⟩, ne⟩ := id S
    refine ⟨_, (pss_cons (ps_par (i := 1) (j := 2) (by rfl) sc_fill.nd rfl rfl (by decide) rfl rfl (pa_cons (pe_ix ix_list (pv 0) pe_int (fun _ _ => rfl)) (pa_cons (pe_ix ix_list (pv 0) pe_int (fun _ _ => rfl)) pa_nil)) (by rfl))
        (pss_cons (ps_set (i := 3) sc_fill.nd rfl (by first | exact Or.inl rfl | exact Or.inr rfl) (pe_op op_add (pe_op op_mul pe_int (pv 2)) pe_int))
        (Evl.pss_cut (ps_if (pt_cmpR op_gt (pe_callB call_len_seq (by rfl) T.b_len PySem.boot_len (pa_cons (pv 1) pa_nil)) pe_int (nomark _)) (pss_one (ps_set (i := 3) sc_fill.nd rfl (by first | exact Or.inl rfl | exact Or.inr rfl) (pe_op op_add (pe_op op_mul pe_int (pe_op op_fdivN (pv 2) (pe_callB call_len_seq (by rfl) T.b_len PySem.boot_len (pa_cons (pv 1) pa_nil)))) (pe_ix ix_list (pv 1) (pe_op op_modN (pe_callTy call_int1 (by rfl) T.b_int (by decide +kernel) (pa_cons (pv 2) pa_nil)) (pe_callB call_len_seq (by rfl) T.b_len PySem.boot_len (pa_cons (pv 1) pa_nil))) (fun _ _ => rfl))))) pss_nil)
        (pss_cons (ps_asg (pe_op op_add (pv 2) pe_int) (pg_sub (pv 0) pe_int set_list))
        (pss_cons (ps_asg (pe_or (pe_cmpR op_ge (pv 2) (pe_callB call_len_seq (by rfl) T.b_len PySem.boot_len (pa_cons (pv 1) pa_nil)) (nomark _)) (pe_one (pe_cmpR op_lt (pv 3) (pe_op op_pow pe_int pe_int) (nomark _)))) (pg_sub (pv 0) pe_int set_list))
        (pss_cons (ps_asg (pe_op op_sub (pv 3) (pe_op op_pow pe_int pe_int)) (pg_sub (pv 0) pe_int set_list))
        (pss_one (ps_if (pt_val (pe_ix ix_list (pv 0) pe_int (fun _ _ => rfl))) (pss_cons (ps_asg pe_int (pg_sub (pv 0) pe_int set_list))
        (pss_one (ps_for PassesOwn.never rfl (pi_enumA rfl T.b_enumerate (pa_cons (pe_tup (pa_cons pe_int (pa_cons pe_int (pa_cons pe_int (pa_cons pe_int (pa_cons pe_int pa_nil)))))) pa_nil)) (pg_tup rfl (pgs_cons (pg_name (i := 4) sc_fill.nd rfl (by first | exact Or.inl rfl | exact Or.inr rfl)) (pgs_cons (pg_name (i := 5) sc_fill.nd rfl (by first | exact Or.inl rfl | exact Or.inr rfl)) pgs_nil))) (pss_cons (ps_set (i := 6) sc_fill.nd rfl (by first | exact Or.inl rfl | exact Or.inr rfl) (pe_op op_modN (pe_callTy call_int1 (by rfl) T.b_int (by decide +kernel) (pa_cons (pe_op op_mul (pe_op op_add (pe_op op_add (pv 3) (pe_op op_mul (pe_op op_mul pe_int (pv 4)) (pv 4))) (pe_op op_mul pe_int (pv 4))) (pe_op op_add pe_int (pe_op op_mul pe_int (pv 4)))) pa_nil)) (pv 5)))
        (pss_one (ps_asg (pe_op op_add (pe_op op_mul (pe_ix ix_list (pv 0) pe_int (fun _ _ => rfl)) (pv 5)) (pe_op op_modN (pe_callTy call_int1 (by rfl) T.b_int (by decide +kernel) (pa_cons (pe_op op_pow (pv 6) pe_int) pa_nil)) (pv 5))) (pg_sub (pv 0) pe_int set_list))))))) pss_nil)))))))), ?_⟩
    refine ⟨_, rfl, _, _, _, _, rfl, rfl, SqL.of h1, rfl, _, rfl, _, _, _, _, rfl, rfl, SqL.of h1, rfl, _, _, rfl, ?_⟩
    refine ⟨_, rfl, _, _, rfl, rfl, .inl ⟨by decide, by decide⟩, _, _, rfl, rfl, ?_⟩
    refine ⟨fun σ' H' => H = H' ∧ ∃ seed : Int, σ' = [some (.ref st), some (.ref c), some (.int n), some (.int seed), none, none, none], ?_, ?_⟩
    · refine ⟨_, rfl, _, _, rfl, .inl (SqL.of h2), _, _, rfl, rfl, _, rfl, ite2 (fun hp => ?_) (fun _ => ⟨rfl, _, rfl⟩)⟩
      have e : (ns.map V.int).length = ns.length := List.length_map ..
      have hp : 0 < ns.length := by
        have hp := of_decide_eq_true hp
        rw [e] at hp; omega
      refine ⟨_, rfl, _, rfl, _, _, rfl, .inl (SqL.of h2), _, _, rfl, rfl, ⟨by rw [e]; omega, by rw [e]; omega⟩, _, _, rfl, rfl, .inl ⟨by decide, by decide⟩, ?_⟩
      obtain ⟨m1, m2⟩ := fmod_bd n (p := ((ns.map V.int).length : Int)) (by rw [e]; omega)
      have hj : (Int.fmod n ((ns.map V.int).length : Int)).toNat < ns.length := by rw [e] at m1 m2 ⊢; omega
      refine ⟨_, rfl, _, rfl, .inl ⟨_, rfl, _, rfl, _, _, rfl, .inl (SqL.of h2), _, _, rfl, rfl, by rw [e]; omega, _, _, _, _, rfl, rfl, SqL.of h2, at_of (j := (Int.fmod n ((ns.map V.int).length : Int)).toNat) (Int.toNat_of_nonneg m1).symm (by rw [List.getElem?_map, List.getElem?_eq_getElem hj]; rfl), _, _, rfl, rfl, ⟨rfl, _, rfl⟩⟩⟩
    · rintro σ' H' ⟨rfl, seed, rfl⟩
      refine ⟨_, rfl, _, _, rfl, rfl, _, rfl, _, _, _, _, rfl, rfl, h1, rfl, ?_⟩
      generalize hH1 : upd H st _ = H1
      have g1 : H1 st = some (.lst [.ref c, .int (n + 1), .int l, .bl b]) := by rw [← hH1]; exact upd_same
      have g2 : H1 c = some (.lst (ns.map V.int)) := by rw [← hH1, upd_ne ne]; exact h2
      have kp1 : Kp st H H1 := by rw [← hH1]; exact Kp.upd _ _ _
      clear hH1
      -- far or not
      dsimp only
      refine sq_asgB (fun Q q => ?_) fun b' => ?_
      · refine ⟨_, rfl, _, rfl, _, _, rfl, .inl (SqL.of g2), _, _, rfl, rfl, _, rfl, ite2 (fun _ => q true) (fun _ => ?_)⟩
        exact ⟨_, rfl, _, _, rfl, rfl, ⟨by decide, by decide, by decide⟩, _, _, rfl, rfl, q _⟩
      refine ⟨_, rfl, _, _, _, _, rfl, rfl, g1, rfl, ?_⟩
      generalize hH2 : upd H1 st _ = H2
      have g3 : H2 st = some (.lst [.ref c, .int (n + 1), .int l, .bl b']) := by rw [← hH2]; exact upd_same
      have g4 : H2 c = some (.lst (ns.map V.int)) := by rw [← hH2, upd_ne ne]; exact g2
      have kp2 : Kp st H H2 := by rw [← hH2]; exact kp1.trans (Kp.upd _ _ _)
      clear hH2
      refine ⟨_, rfl, _, _, rfl, rfl, ⟨by decide, by decide, by decide⟩, _, _, rfl, rfl, _, rfl, _, _, _, _, rfl, rfl, g3, rfl, ?_⟩
      generalize hH3 : upd H2 st _ = H3
      obtain ⟨l3, g5⟩ : ∃ l3, H3 st = some (.lst [.ref c, .int (n + 1), .int l3, .bl b']) := ⟨_, by rw [← hH3]; exact upd_same⟩
      have g6 : H3 c = some (.lst (ns.map V.int)) := by rw [← hH3, upd_ne ne]; exact g4
      have kp3 : Kp st H H3 := by rw [← hH3]; exact kp2.trans (Kp.upd _ _ _)
      clear hH3
      refine ⟨_, rfl, _, _, _, _, rfl, rfl, SqL.of g5, rfl, _, rfl, ite2 (fun _ => ?_) (fun _ => k _ ⟨⟨_, _, _, g5⟩, ⟨ns, g6, hl⟩, ne⟩ kp3)⟩
      refine ⟨_, rfl, _, _, _, _, rfl, rfl, g5, rfl, ?_⟩
      generalize hH4 : upd H3 st _ = H4
      have g7 : H4 st = some (.lst [.ref c, .int (n + 1), .int 0, .bl b']) := by rw [← hH4]; exact upd_same
      have g8 : H4 c = some (.lst (ns.map V.int)) := by rw [← hH4, upd_ne ne]; exact g6
      have kp4 : Kp st H H4 := by rw [← hH4]; exact kp3.trans (Kp.upd _ _ _)
      clear hH4
      refine ⟨by show 5 ≤ sizeLine; decide, fun t nt => ?_⟩
      have hts : t ≠ st := (ne_of_none g7 nt).symm
      have htc : t ≠ c := (ne_of_none g8 nt).symm
      refine ⟨t, _, rfl, .inr ⟨SqT.of upd_same, for_it (walk_enumT (K := K) (xs := [V.int 2147483647, V.int 2147483629, V.int 2147483587, V.int 2147483579, V.int 2147483563])) (fun i σ' H' => ∃ (u v x : Option V) (l' : Int), σ' = [some (.ref st), some (.ref c), some (.int n), some (.int seed), u, v, x] ∧ Kp st (upd H4 t (.tup [V.int 2147483647, V.int 2147483629, V.int 2147483587, V.int 2147483579, V.int 2147483563])) H' ∧ H' st = some (.lst [.ref c, .int (n + 1), .int l', .bl b'])) ?_ ?_ ?_ ?_⟩⟩
      · exact ⟨_, _, _, _, rfl, Kp.refl _ _, by rw [upd_ne hts.symm]; exact g7⟩
      · rintro i σ' H' _ ⟨u, v, x, l', rfl, e, _⟩
        exact SqT.of (e _ _ hts upd_same)
      · rintro i y σ' H' H'' hi ⟨u, v, x, l', rfl, e, e2⟩ ⟨T, x1, x2, rfl, nT, rfl, hx1, hx2⟩
        obtain ⟨pr, rfl, pr0, pr1⟩ : ∃ pr : Int, x2 = .int pr ∧ 0 < pr ∧ pr < 2147483648 := by
          have hm := mem_at hx2
          simp only [List.mem_cons, List.not_mem_nil, or_false] at hm
          rcases hm with rfl | rfl | rfl | rfl | rfl <;> exact ⟨_, rfl, by decide, by decide⟩
        cases (Option.some.inj hx1)
        have hi : i < 5 := hi
        have hTs : T ≠ st := (ne_of_none e2 nT).symm
        refine ⟨T, _, rfl, SqT.of upd_same, rfl, _, _, rfl, _, _, rfl, rfl, ?_⟩
        refine ⟨_, rfl, _, rfl, _, _, rfl, rfl, .inl ⟨by decide, by decide⟩, _, rfl, _, _, rfl, rfl, .inr ⟨by omega, by omega⟩, _, _, rfl, rfl, ?_⟩
        refine ⟨_, rfl, _, _, rfl, rfl, .inl ⟨by decide, by decide⟩, _, _, rfl, rfl, _, rfl, _, _, rfl, rfl, .inl ⟨by decide, by decide⟩, _, _, rfl, rfl, _, _, rfl, rfl, .inr ⟨by omega, by omega⟩, ?_⟩
        refine .inl ⟨_, rfl, _, rfl, _, _, rfl, rfl, by omega, ?_⟩
        generalize hfar : Int.fmod _ pr = far
        have hfar2 := fmod_bd (((seed + 10007 * (i : Int) * (i : Int) + 101 * (i : Int)) * (48271 + 2 * (i : Int)))) pr0
        rw [hfar] at hfar2
        refine ⟨_, rfl, _, _, _, _, rfl, rfl, SqL.of (by rw [upd_ne hTs.symm]; exact e2), rfl, _, rfl, _, _, rfl, rfl, .inr ⟨by omega, by omega⟩, ?_⟩
        refine ⟨_, rfl, _, _, rfl, rfl, ⟨by decide, by decide, by omega⟩, .inl ⟨_, rfl, _, rfl, _, _, rfl, rfl, by omega, _, _, rfl, rfl, _, rfl, _, _, _, _, rfl, rfl, by rw [upd_ne hTs.symm]; exact e2, rfl, ?_⟩⟩
        refine ⟨_, _, _, _, rfl, (e.trans (Kp.of (Same.upd' nT))).trans (Kp.upd _ _ _), upd_same⟩
      · rintro σ' H' ⟨u, v, x, l', rfl, e, e2⟩
        exact k _ ⟨⟨_, _, _, e2⟩, ⟨ns, e _ _ ne (by rw [upd_ne htc.symm]; exact g8), hl⟩, ne⟩ ((kp4.trans (Kp.of (Same.upd' nt))).trans e)
end
end Lm

namespace Lm
open PySem L2
/-! ### what is wanted may be weakened -/
def MonE (te : TE) : Prop := ∀ σ H (Q Q' : VK), (∀ v H1, Q v H1 → Q' v H1) → te σ H Q → te σ H Q'
def MonT (tt : TT) : Prop := ∀ σ H (Q Q' : Bool → Hp → Prop), (∀ b H1, Q b H1 → Q' b H1) → tt σ H Q → tt σ H Q'
def MonR (r : R2) : Prop := ∀ x y H (Q Q' : VK), (∀ v H1, Q v H1 → Q' v H1) → r x y H Q → r x y H Q'
theorem monE_var {i : Nat} : MonE (tVar i) := fun σ H Q Q' h ⟨v, e, q⟩ => ⟨v, e, h _ _ q⟩
theorem monE_c {v : V} : MonE (tC v) := fun σ H Q Q' h q => h _ _ q
theorem monE_op {r : R2} {ta tb : TE} (hr : MonR r) (ha : MonE ta) (hb : MonE tb) : MonE (tOp r ta tb) := fun σ H Q Q' h q => ha _ _ _ _ (fun x H1 q => hb _ _ _ _ (fun y H2 q => hr _ _ _ _ _ h q) q) q
theorem mon_I0 {g : Int → Int → V} : MonR (rI0 g) := fun x y H Q Q' h ⟨i, j, e1, e2, q⟩ => ⟨i, j, e1, e2, h _ _ q⟩
theorem mon_I {C : Int → Int → Prop} {g : Int → Int → V} : MonR (rI C g) := fun x y H Q Q' h ⟨i, j, e1, e2, c, q⟩ => ⟨i, j, e1, e2, c, h _ _ q⟩
theorem mon_ixL {K : PySem.W.Frag} : MonR (rIxL K) := fun x y H Q Q' h ⟨p, xs, i, v, e1, e2, e3, e4, q⟩ => ⟨p, xs, i, v, e1, e2, e3, e4, h _ _ q⟩
theorem mon_eq : MonR rEq := fun x y H Q Q' h ⟨e, q⟩ => ⟨e, h _ _ q⟩
theorem monT_test {te : TE} (he : MonE te) : MonT (tTest te) := fun σ H Q Q' h q => he _ _ _ _ (fun x H1 ⟨k, e, q⟩ => ⟨k, e, h _ _ q⟩) q
theorem monT_B {te : TE} (he : MonE te) : MonT (tB te) := fun σ H Q Q' h q => he _ _ _ _ (fun x H1 ⟨k, e, q⟩ => ⟨k, e, h _ _ q⟩) q
theorem monT_and {t u : TT} (ht : MonT t) (hu : MonT u) : MonT (tAnd t u) := fun σ H Q Q' h q => ht _ _ _ _ (fun b H1 q => by cases b with | true => exact hu _ _ _ _ h q | false => exact h _ _ q) q
theorem monT_or {t u : TT} (ht : MonT t) (hu : MonT u) : MonT (tOr t u) := fun σ H Q Q' h q => ht _ _ _ _ (fun b H1 q => by cases b with | true => exact h _ _ q | false => exact hu _ _ _ _ h q) q
section
variable {P : Program} {w : World} {K : PySem.W.Frag} {mg : Str → Option Value} {base : Heap} {f : Addr} {fd : FuncData}
def spTake : Sp := fun vs H Q _ => ∃ (st c : Addr) (m : Int), vs = [.ref st, .int m] ∧ StAt H st c ∧ 0 < m ∧ m < 1073741824 ∧ ∀ d H', 0 ≤ d → d < m → StAt H' st c → Kp st H H' → Q (.int d) H'
abbrev s_take : Stmt := top 32
theorem sc_take : FnScope ["_law_state", "_law_many_here", "_law_laps", "_law_digit"] ["_law_state", "_law_many_here"] (defScope s_take) := ⟨rfl, rfl, rfl, by decide +kernel, rfl, by decide +kernel, by decide +kernel⟩
theorem ok_take {fF : Addr} {fdF : FuncData} (F : Fun K "_law_take" "_law_take" s_take f fd) (T : Blt mg) (D_fill : DefOk P w K mg base 1 "_law_fill" fF fdF ["_law_state"] spFill) : FnOk P w K mg base CX0 2 f fd ["_law_state", "_law_many_here"] spTake := by
  refine F.ok sc_take (fun vs H Q E h => ?_) (fun cdv A outer s H vs Q E hr h => ?_)
  · obtain ⟨st, c, m, rfl, _⟩ := h
    rfl
  · obtain ⟨st, c, m, rfl, S, m0, m1, k⟩ := h
    refine ⟨_, (pss_cons (ps_set (i := 2) sc_take.nd rfl (by first | exact Or.inl rfl | exact Or.inr rfl) pe_int)
        (pss_cons (ps_while PassesOwn.never (PW.pt (pw_and (pt_cmpR op_lt (pv 2) pe_int (nomark _)) (pw_and1 (PW.pt (pw_or (pt_cmpR op_eq (pe_ix ix_list (pv 0) pe_int (fun _ _ => rfl)) pe_int (nomark _)) (pw_or1 (PW.pt (pw_and (pt_val (pe_ix ix_list (pv 0) pe_int (fun _ _ => rfl))) (pw_and1 (pt_cmpR op_lt (pe_ix ix_list (pv 0) pe_int (fun _ _ => rfl)) (pe_op op_mul (pv 1) pe_int) (nomark _))))))))))) (pss_cons (ps_expr (pe_d D_fill (hr.mono (by decide)) (pa_cons (pv 0) pa_nil)))
        (pss_cons (ps_aug (i := 2) sc_take.nd rfl (by first | exact Or.inl rfl | exact Or.inr rfl) pe_int ip_add)
        (pss_one (ps_if (PW.pt (pw_and (pt_val (pe_ix ix_list (pv 0) pe_int (fun _ _ => rfl))) (pw_and1 (pt_cmpR op_lt (pe_ix ix_list (pv 0) pe_int (fun _ _ => rfl)) (pe_op op_mul (pv 1) pe_int) (nomark _))))) (pss_one (ps_asg (pe_op op_add (pe_ix ix_list (pv 0) pe_int (fun _ _ => rfl)) (pe_op op_mul (pe_op op_mul (pv 1) pe_int) (pe_op op_add pe_int (pe_op op_modN (pe_callTy call_int1 (by rfl) T.b_int (by decide +kernel) (pa_cons (pe_ix ix_list (pv 0) pe_int (fun _ _ => rfl)) pa_nil)) pe_int)))) (pg_sub (pv 0) pe_int set_list))) pss_nil)))))
        (pss_cons (ps_set (i := 3) sc_take.nd rfl (by first | exact Or.inl rfl | exact Or.inr rfl) (pe_op op_modN (pe_callTy call_int1 (by rfl) T.b_int (by decide +kernel) (pa_cons (pe_ix ix_list (pv 0) pe_int (fun _ _ => rfl)) pa_nil)) (pv 1)))
        (pss_cons (ps_asg (pe_op op_fdivN (pe_ix ix_list (pv 0) pe_int (fun _ _ => rfl)) (pv 1)) (pg_sub (pv 0) pe_int set_list))
        (pss_one (ps_ret (pv 3))))))), ?_⟩
    refine while_by (fun σ' H' => ∃ (i : Nat), σ' = [some (.ref st), some (.int m), some (.int (i : Int)), none] ∧ i ≤ 64 ∧ StAt H' st c ∧ Kp st H H') (fun σ' _ => match σ' with | [_, _, some (.int i), _] => (64 - i).toNat | _ => 0) ⟨0, rfl, by decide, S, Kp.refl _ _⟩ ?_ ?_
    · rintro σ' H' ⟨i, rfl, hi, S', e⟩
      obtain ⟨⟨n, l, b, h1⟩, ⟨ns, h2, hl⟩, ne⟩ := id S'
      -- behind the loop
      have after : tSeq (tAsg (tOp (rI (fun x j => j ≠ 0) fun i j => V.int (i.fmod j)) (tCB (fun xs H Q => (∃ i, xs = [V.int i] ∧ Q (V.int i) H) ∨ ∃ k, xs = [V.bl k] ∧ Q (V.int (if k = true then 1 else 0)) H) (tCons (tOp (rIxL K) (tVar 0) (tC (.int 2))) tNil)) (tVar 1)) (gName 3))
          (tSeq (tAsg (tOp (rI CDivN fun i j => .int (i.fdiv j)) (tOp (rIxL K) (tVar 0) (tC (.int 2))) (tVar 1)) (gSub (tVar 0) (tC (.int 2)) rSetL)) (tRet (tVar 3))) { nx := fun _ H' => Q .non H', rt := Q } [some (.ref st), some (.int m), some (.int (i : Int)), none] H' := by
        refine ⟨_, rfl, _, _, _, _, rfl, rfl, SqL.of h1, rfl, .inl ⟨_, rfl, _, rfl, _, _, rfl, rfl, by omega, ?_⟩⟩
        have hd := fmod_bd l m0
        refine ⟨_, rfl, _, _, _, _, rfl, rfl, SqL.of h1, rfl, _, rfl, _, _, rfl, rfl, ⟨by omega, by omega⟩, _, rfl, _, _, _, _, rfl, rfl, h1, rfl, _, rfl, ?_⟩
        exact k _ _ hd.1 hd.2 ⟨⟨_, _, _, upd_same⟩, ⟨ns, by rw [upd_ne ne]; exact h2, hl⟩, ne⟩ (e.trans (Kp.upd _ _ _))
      refine ⟨_, rfl, _, _, rfl, rfl, _, rfl, ite2 (fun hc => ?_) (fun _ => iteF after)⟩
      have hc : i < 64 := by have := of_decide_eq_true hc; omega
      refine ⟨_, rfl, _, _, _, _, rfl, rfl, SqL.of h1, rfl, rfl, _, rfl, ite2 (fun _ => ?b1) (fun _ => ⟨_, rfl, _, _, _, _, rfl, rfl, SqL.of h1, rfl, _, rfl, ite2 (fun _ => ⟨_, rfl, _, _, _, _, rfl, rfl, SqL.of h1, rfl, _, rfl, _, _, rfl, rfl, .inr ⟨by decide, by decide⟩, _, _, rfl, rfl, _, rfl, ite2 (fun _ => ?b2) (fun _ => ?c1)⟩) (fun _ => ?c2)⟩)⟩
      case c1 => exact after
      case c2 => exact after
      all_goals
        refine ⟨_, rfl, st, c, rfl, S', fun H2 S2 e2 => ?_⟩
        obtain ⟨⟨n2, l2, b2, g1⟩, ⟨ns2, g2, gl⟩, _⟩ := id S2
        have fin : ∀ H3, StAt H3 st c → Kp st H2 H3 → (∃ j : Nat, [some (V.ref st), some (.int m), some (.int ((i : Int) + 1)), none] = [some (.ref st), some (.int m), some (.int (j : Int)), none] ∧ j ≤ 64 ∧ StAt H3 st c ∧ Kp st H H3) ∧ (64 - ((i : Int) + 1)).toNat < (64 - (i : Int)).toNat :=
          fun H3 S3 e3 => ⟨⟨i + 1, by simp, by omega, S3, (e.trans e2).trans e3⟩, by omega⟩
        refine ⟨_, rfl, _, _, rfl, rfl, ?_⟩
        refine ⟨_, rfl, _, _, _, _, rfl, rfl, SqL.of g1, rfl, _, rfl, ite2 (fun _ => ⟨_, rfl, _, _, _, _, rfl, rfl, SqL.of g1, rfl, _, rfl, _, _, rfl, rfl, .inr ⟨by decide, by decide⟩, _, _, rfl, rfl, _, rfl, ite2 (fun _ => ?_) (fun _ => fin _ S2 (Kp.refl _ _))⟩) (fun _ => fin _ S2 (Kp.refl _ _))⟩
        have hr2 := fmod_bd l2 (p := 4093) (by decide)
        refine ⟨_, rfl, _, _, _, _, rfl, rfl, SqL.of g1, rfl, _, rfl, _, _, rfl, rfl, .inr ⟨by decide, by decide⟩, _, rfl, _, _, _, _, rfl, rfl, SqL.of g1, rfl, .inl ⟨_, rfl, _, _, rfl, rfl, (by show (4093 : Int) ≠ 0; decide), _, _, rfl, rfl, _, _, rfl, rfl, .inr ⟨by omega, by omega⟩, _, _, rfl, rfl, _, rfl, _, _, _, _, rfl, rfl, g1, rfl, ?_⟩⟩
        exact fin _ ⟨⟨_, _, _, upd_same⟩, ⟨ns2, by rw [upd_ne ne]; exact g2, gl⟩, ne⟩ (Kp.upd _ _ _)
    · exact monT_and (monT_test (monE_op mon_I0 (monE_var) (monE_c))) (monT_or (monT_test (monE_op mon_eq (monE_op mon_ixL monE_var monE_c) monE_c)) (monT_and (monT_B (monE_op mon_ixL monE_var monE_c)) (monT_test (monE_op mon_I0 (monE_op mon_ixL monE_var monE_c) (monE_op mon_I monE_var monE_c)))))
end
end Lm

namespace Lm
open PySem L2
section
variable {P : Program} {w : World} {K : PySem.W.Frag} {mg : Str → Option Value} {base : Heap} {f : Addr} {fd : FuncData}
def spOneA (K : PySem.W.Frag) : Sp := fun vs H Q _ => ∃ (st c t : Addr) (xs : List V), vs = [.ref st, .ref t] ∧ StAt H st c ∧ t ≠ st ∧ (SqL K H t xs ∨ SqT K H t xs) ∧ 0 < xs.length ∧ xs.length < 1073741824 ∧ ∀ v H', v ∈ xs → StAt H' st c → Kp st H H' → Q v H'
def spOne (K : PySem.W.Frag) : Sp := fun vs H Q _ => ∃ (st c t : Addr) (xs : List V), vs = [.ref st, .ref t] ∧ StAt H st c ∧ t ≠ st ∧ SqT K H t xs ∧ 0 < xs.length ∧ xs.length < 1073741824 ∧ ∀ v H', v ∈ xs → StAt H' st c → Kp st H H' → Q v H'
abbrev s_one : Stmt := top 33
theorem sc_one : FnScope ["_law_state", "_law_things"] ["_law_state", "_law_things"] (defScope s_one) := ⟨rfl, rfl, rfl, by decide +kernel, rfl, by decide +kernel, by decide +kernel⟩
theorem ok_oneA {fT : Addr} {fdT : FuncData} (F : Fun K "_law_one" "_law_one" s_one f fd) (T : Blt mg) (D_take : DefOk P w K mg base 2 "_law_take" fT fdT ["_law_state", "_law_many_here"] spTake) : FnOk P w K mg base CX0 3 f fd ["_law_state", "_law_things"] (spOneA K) := by
  refine F.ok sc_one (fun vs H Q E h => ?_) (fun cdv A outer s H vs Q E hr h => ?_)
  · obtain ⟨st, c, t, xs, rfl, _⟩ := h
    rfl
  · obtain ⟨st, c, t, xs, rfl, S, hts, hq, l0, l1, k⟩ := h
    refine ⟨_, (pss_one (ps_ret (pe_ix ix_seq (pv 1) (pe_d D_take (hr.mono (by decide)) (pa_cons (pv 0) (pa_cons (pe_callB call_len_seq (by rfl) T.b_len PySem.boot_len (pa_cons (pv 1) pa_nil)) pa_nil))) (fun _ _ => rfl)))), ?_⟩
    refine ⟨_, rfl, _, rfl, _, rfl, _, _, rfl, hq, st, c, _, rfl, S, by omega, by omega, fun d H' d0 d1 S' e => ?_⟩
    have hd : d.toNat < xs.length := by omega
    have at_ := at_of (Int.toNat_of_nonneg d0).symm (List.getElem?_eq_getElem hd)
    have fin := k _ _ (List.getElem_mem hd) S' e
    rcases hq with hq | hq
    · exact .inl ⟨t, xs, d, _, rfl, rfl, e.seqL hts hq, at_, fin⟩
    · exact .inr (.inl ⟨t, xs, d, _, rfl, rfl, e.seqT hts hq, at_, fin⟩)
theorem ok_one {fT : Addr} {fdT : FuncData} (F : Fun K "_law_one" "_law_one" s_one f fd) (T : Blt mg) (D_take : DefOk P w K mg base 2 "_law_take" fT fdT ["_law_state", "_law_many_here"] spTake) : FnOk P w K mg base CX0 3 f fd ["_law_state", "_law_things"] (spOne K) :=
  (ok_oneA F T D_take).imp fun vs H Q E ⟨st, c, t, xs, h1, h2, h3, h4, h5, h6, h7⟩ => ⟨st, c, t, xs, h1, h2, h3, .inr h4, h5, h6, h7⟩
/-! ### the words -/
def sg (c : Nat) : Str := ⟨#[c]⟩
def two (c d : Nat) : Str := ⟨#[c, d]⟩
def row2 (c : Nat) : List Str := [103, 104, 105, 106, 107, 108, 109, 110, 111, 112].map (two c)
def w0 : List Str := ["a", "b", "k", "zz", "abcdefgh"]
def allW : List Str := w0 ++ [97, 98, 99, 100, 101, 102].flatMap row2
theorem two_eq (c d : Nat) : sg c ++ sg d = two c d := rfl
theorem len1 (c : Nat) : (sg c).length = 1 := rfl
def spAllW : Sp := fun vs H Q _ => vs = [] ∧ ∀ p H', H p = none → Same H H' → H' p = some (.lst (allW.map V.str)) → Q (.ref p) H'
abbrev s_all_words : Stmt := top 35
theorem sc_all_words : FnScope ["_law_found", "_law_x", "_law_y"] [] (defScope s_all_words) := ⟨rfl, rfl, rfl, by decide +kernel, rfl, by decide +kernel, by decide +kernel⟩
theorem sixL : ("abcdef" : Str).cps = #[97, 98, 99, 100, 101, 102] := by decide +kernel
theorem tenL : ("ghijklmnop" : Str).cps = #[103, 104, 105, 106, 107, 108, 109, 110, 111, 112] := by decide +kernel
theorem ok_all_words (F : Fun K "_law_all_words" "_law_all_words" s_all_words f fd) (T : Blt mg) : FnOk P w K mg base CX0 1 f fd [] spAllW := by
  refine F.ok sc_all_words (fun vs H Q E h => ?_) (fun cdv A outer s H vs Q E hr h => ?_)
  · obtain ⟨rfl, _⟩ := h
    rfl
  · obtain ⟨rfl, k⟩ := h
    refine ⟨_, (pss_cons (ps_set (i := 0) sc_all_words.nd rfl (by first | exact Or.inl rfl | exact Or.inr rfl) (pe_lst (pa_cons pe_str (pa_cons pe_str (pa_cons pe_str (pa_cons pe_str (pa_cons pe_str pa_nil)))))))
        (pss_cons (ps_for PassesOwn.never rfl (pi_str pe_str) (pg_name (i := 1) sc_all_words.nd rfl (by first | exact Or.inl rfl | exact Or.inr rfl)) (pss_one (ps_expr (pe_bm PySem.F.plainAttrs_list PySem.F.slot_list_extend PySem.F.type_list_extend mt_extend (pv 0) (by exact (pa_cons (pe_lc (own := [("_law_y", 2)]) (g := gName 2) (tt := tYes) (te := (tOp rAddS (tVar 1) (tVar 2))) rfl sc_all_words.nd (pi_str pe_str) (blkOk_by (own := [("_law_y", 2)]) (by kernel_rfl)) (fun _ _ _ _ _ => (pg_name (i := 2) sc_all_words.nd rfl (by first | exact Or.inl rfl | exact Or.inr rfl))) (fun _ _ _ _ _ => pts_nil) (fun _ _ _ _ _ => by exact (pe_op op_add_str (pv 1) (pv 2)))) pa_nil))))))
        (pss_one (ps_ret (pv 0))))), ?_⟩
    refine ⟨by show 5 ≤ sizeLine; decide, fun p np => ?_⟩
    refine ⟨_, rfl, for_it walk_str (fun i σ' H' => ∃ u v : Option V, σ' = [some (.ref p), u, v] ∧ Same H H' ∧ H' p = some (.lst ((w0 ++ ([97, 98, 99, 100, 101, 102].take i).flatMap row2).map V.str))) ⟨none, none, rfl, Same.upd' np, upd_same⟩ (fun _ _ _ _ _ => True.intro) ?_ ?_⟩
    · rintro i x σ' H' H'' hi ⟨u, v, rfl, e, hp⟩ ⟨rfl, c, hc, rfl⟩
      rw [sixL] at hi hc
      refine ⟨_, rfl, .inl ⟨rfl, _, SqL.of hp⟩, ?_⟩
      refine ⟨_, rfl, fun D nD => lc_it walk_str (fun j H2 => Same H'' H2 ∧ H2 D = some (.lst ((([103, 104, 105, 106, 107, 108, 109, 110, 111, 112].take j).map (two c)).map V.str))) ⟨Same.upd' nD, upd_same⟩ (fun _ _ _ _ => True.intro) ?_ ?_⟩
      · rintro j y H2 H3 hj ⟨g1, g2⟩ ⟨rfl, d, hd, rfl⟩
        rw [tenL] at hj hd
        refine ⟨rfl, _, rfl, _, rfl, sg c, sg d, rfl, rfl, by rw [len1, len1]; decide, _, g2, small1000 (by simp; omega), ?_⟩
        refine ⟨Same.mut g1 nD, ?_⟩
        have hd' : [103, 104, 105, 106, 107, 108, 109, 110, 111, 112][j]? = some d := by simpa using hd
        rw [upd_same, List.take_succ, hd', two_eq]
        simp
      · rintro H2 ⟨g1, g2⟩
        rw [tenL] at g2
        have g2 : H2 D = some (.lst ((row2 c).map V.str)) := g2
        have hDp : D ≠ p := (ne_of_none hp nD).symm
        have hc' : [97, 98, 99, 100, 101, 102][i]? = some c := by simpa using hc
        refine ⟨_, _, _, _, rfl, rfl, g1 _ _ hp, g2, ?_, ?_⟩
        · show _ ≤ sizeLine
          refine Nat.le_of_lt (small1000 ?_)
          have hi' : i ≤ 6 := Nat.le_of_lt hi
          have : ∀ i ≤ 6, ((w0 ++ ([97, 98, 99, 100, 101, 102].take i).flatMap row2).map V.str).length ≤ 800 := by decide +kernel
          have h1 := this i hi'
          have h2 : ((row2 c).map V.str).length = 10 := by simp [row2]
          omega
        · refine ⟨_, _, rfl, Same.mut (e.trans g1) np, ?_⟩
          rw [upd_same, List.take_succ, hc']
          simp
    · rintro σ' H' ⟨u, v, rfl, e, hp⟩
      rw [sixL] at hp
      exact ⟨_, rfl, k p _ np e hp⟩
end
end Lm

namespace Lm
open PySem L2
def isW (x : Str) : Bool := decide (1 ≤ x.cps.size) && decide (x.cps.size ≤ 8) && x.cps.toList.all fun c => decide (97 ≤ c) && decide (c ≤ 122)
theorem allW_nodup : allW.Nodup := by decide +kernel
theorem allW_len : allW.length = 65 := by decide +kernel
theorem allW_word : ∀ x ∈ allW, isW x = true := by decide +kernel
/-- of the words so many, all unlike -/
structure Wds (ws : List Str) (n : Nat) : Prop where
  len : ws.length = n
  nd : ws.Nodup
  wd : ∀ x ∈ ws, isW x = true
theorem perm_erase {α : Type} : ∀ (l : List α) (i : Nat) (h : i < l.length), (l[i] :: l.eraseIdx i).Perm l
  | a :: r, 0, _ => .refl _
  | a :: r, i + 1, h => by
    have := perm_erase r i (by simpa using h)
    exact (List.Perm.swap _ _ _).trans (this.cons a)
theorem erase_map {α β : Type} (g : α → β) : ∀ (l : List α) (i : Nat), (l.map g).eraseIdx i = (l.eraseIdx i).map g
  | [], _ => rfl
  | _ :: _, 0 => rfl
  | a :: r, i + 1 => by
    show g a :: (r.map g).eraseIdx i = g a :: (r.eraseIdx i).map g
    rw [erase_map g r i]
theorem wds_of {F L : List Str} (h : (F ++ L).Perm allW) : Wds F F.length := by
  have nd := h.symm.nodup allW_nodup
  exact ⟨rfl, (List.nodup_append.mp nd).1, fun x hx => allW_word x (h.mem_iff.mp (List.mem_append_left _ hx))⟩
section
variable {P : Program} {w : World} {K : PySem.W.Frag} {mg : Str → Option Value} {base : Heap} {f : Addr} {fd : FuncData}
def spSomeWA : Sp := fun vs H Q _ => ∃ (st c : Addr) (m : Nat), vs = [.ref st, .int m] ∧ StAt H st c ∧ m ≤ 60 ∧ ∀ p ws H', H p = none → Wds ws m → (∀ x ∈ ws, x ∈ allW) → StAt H' st c → Kp st H H' → H' p = some (.lst (ws.map V.str)) → Q (.ref p) H'
def spSomeW : Sp := fun vs H Q _ => ∃ (st c : Addr) (m : Nat), vs = [.ref st, .int m] ∧ StAt H st c ∧ m ≤ 60 ∧ ∀ p ws H', H p = none → Wds ws m → StAt H' st c → Kp st H H' → H' p = some (.lst (ws.map V.str)) → Q (.ref p) H'
abbrev s_some_words : Stmt := top 36
theorem sc_some_words : FnScope ["_law_state", "_law_many_here", "_law_left", "_law_found", "_law_k"] ["_law_state", "_law_many_here"] (defScope s_some_words) := ⟨rfl, rfl, rfl, by decide +kernel, rfl, by decide +kernel, by decide +kernel⟩
theorem ok_some_wordsA {fT fW : Addr} {fdT fdW : FuncData} (F : Fun K "_law_some_words" "_law_some_words" s_some_words f fd) (T : Blt mg) (D_take : DefOk P w K mg base 2 "_law_take" fT fdT ["_law_state", "_law_many_here"] spTake)
    (D_all_words : DefOk P w K mg base 1 "_law_all_words" fW fdW [] spAllW) : FnOk P w K mg base CX0 3 f fd ["_law_state", "_law_many_here"] spSomeWA := by
  refine F.ok sc_some_words (fun vs H Q E h => ?_) (fun cdv A outer s H vs Q E hr h => ?_)
  · obtain ⟨st, c, m, rfl, _⟩ := h
    rfl
  · obtain ⟨st, c, m, rfl, S, hm, k⟩ := h
    refine ⟨_, (pss_cons (ps_par (i := 2) (j := 3) (by rfl) sc_some_words.nd rfl rfl (by decide) rfl rfl (pa_cons (pe_d0 D_all_words (hr.mono (by decide))) (pa_cons (pe_lst pa_nil) pa_nil)) (by rfl))
        (pss_cons (ps_for PassesOwn.never rfl (pi_range1 rfl T.b_range (pa_cons (pv 1) pa_nil)) (pg_name (i := 4) sc_some_words.nd rfl (by first | exact Or.inl rfl | exact Or.inr rfl)) (pss_one (ps_expr (pe_bm PySem.F.plainAttrs_list PySem.F.slot_list_append PySem.F.type_list_append mt_append (pv 3) (pa_cons (pe_bm PySem.F.plainAttrs_list PySem.F.slot_list_pop PySem.F.type_list_pop mt_popAt (pv 2) (pa_cons (pe_d D_take (hr.mono (by decide)) (pa_cons (pv 0) (pa_cons (pe_callB call_len_seq (by rfl) T.b_len PySem.boot_len (pa_cons (pv 2) pa_nil)) pa_nil))) pa_nil)) pa_nil)))))
        (pss_one (ps_ret (pv 3))))), ?_⟩
    refine ⟨rfl, fun l H1 nl e1 hl => ⟨by show 0 ≤ sizeLine; decide, fun fo nfo => ⟨_, _, rfl, ?_⟩⟩⟩
    have nfo' := e1.free nfo
    have hlf : l ≠ fo := ne_of_none hl nfo
    refine ⟨_, rfl, _, rfl, by omega, by omega, for_range (n := ((m : Int) - 0).toNat) (fun i σ' H' => ∃ (u : Option V) (F L : List Str), σ' = [some (.ref st), some (.int m), some (.ref l), some (.ref fo), u] ∧ F.length = i ∧ (F ++ L).Perm allW ∧ StAt H' st c ∧ Kp st H H' ∧ H' l = some (.lst (L.map V.str)) ∧ H' fo = some (.lst (F.map V.str)))
      ⟨none, [], allW, rfl, rfl, .refl _, (S.same e1).same (Same.upd' nfo), Kp.of (e1.trans (Same.upd' nfo)), by rw [upd_ne hlf]; exact hl, upd_same⟩ ?_ ?_⟩
    · rintro i σ' H' hi ⟨u, F, L, rfl, hF, hp, S', e, gl, gf⟩
      have hi : i < m := by omega
      have hlen : F.length + L.length = 65 := by
        have := hp.length_eq
        rw [List.length_append, allW_len] at this
        exact this
      obtain ⟨hls, hlc⟩ : l ≠ st ∧ l ≠ c := S.of_new nl
      obtain ⟨hfs, hfc⟩ : fo ≠ st ∧ fo ≠ c := S.of_new nfo'
      refine ⟨_, rfl, .inl ⟨rfl, _, SqL.of gf⟩, ?_⟩
      refine ⟨_, rfl, .inl ⟨rfl, _, SqL.of gl⟩, _, rfl, _, rfl, _, _, rfl, .inl (SqL.of gl), st, c, _, rfl, S', by simp; omega, by simp; omega, fun d H2 d0 d1 S2 e2 => ?_⟩
      have gl2 := e2 _ _ hls gl
      have gf2 := e2 _ _ hfs gf
      have hd : d.toNat < L.length := by simp at d1; omega
      refine ⟨l, _, d, d.toNat, _, rfl, rfl, gl2, by omega, by omega, PySem.seqIndex_of d0 (by simpa using d1), (by rw [List.getElem?_map, List.getElem?_eq_getElem hd]; rfl), ?_⟩
      refine ⟨_, _, _, rfl, rfl, by rw [upd_ne hlf.symm]; exact gf2, small1000 (by simp; omega), ?_⟩
      refine ⟨_, F ++ [L[d.toNat]], L.eraseIdx d.toNat, rfl, by simp [hF], ?_, (S2.mut hls hlc).mut hfs hfc, Kp.mut (Kp.mut (e.trans e2) nl) nfo', ?_, ?_⟩
      · refine List.Perm.trans ?_ hp
        rw [List.append_assoc]
        exact (perm_erase L d.toNat hd).append_left F
      · rw [upd_ne hlf, upd_same, erase_map]
      · rw [upd_same]
        simp
    · rintro σ' H' ⟨u, F, L, rfl, hF, hp, S', e, gl, gf⟩
      have hF : F.length = m := by omega
      exact ⟨_, rfl, k fo F H' nfo' (hF ▸ wds_of hp) (fun x hx => hp.mem_iff.mp (List.mem_append_left _ hx)) S' e gf⟩
theorem ok_some_words {fT fW : Addr} {fdT fdW : FuncData} (F : Fun K "_law_some_words" "_law_some_words" s_some_words f fd) (T : Blt mg) (D_take : DefOk P w K mg base 2 "_law_take" fT fdT ["_law_state", "_law_many_here"] spTake)
    (D_all_words : DefOk P w K mg base 1 "_law_all_words" fW fdW [] spAllW) : FnOk P w K mg base CX0 3 f fd ["_law_state", "_law_many_here"] spSomeW :=
  (ok_some_wordsA F T D_take D_all_words).imp fun vs H Q E ⟨st, c, m, h1, h2, h3, h4⟩ => ⟨st, c, m, h1, h2, h3, fun p ws H' a b _ d e g => h4 p ws H' a b d e g⟩
def spKept : Sp := fun vs H Q _ => ∃ (st c : Addr) (m : Nat), vs = [.ref st, .int m] ∧ StAt H st c ∧ m ≤ 60 ∧ ∀ p (S : Nat → Bool) H', H p = none → StAt H' st c → Kp st H H' → H' p = some (.lst (((List.range m).filter S).map fun i : Nat => V.int i)) → Q (.ref p) H'
abbrev s_kept : Stmt := top 40
theorem sc_kept : FnScope ["_law_state", "_law_many_here", "_law_wide", "_law_side", "_law_k"] ["_law_state", "_law_many_here"] (defScope s_kept) := ⟨rfl, rfl, rfl, by decide +kernel, rfl, by decide +kernel, by decide +kernel⟩
theorem ok_kept {fT fO : Addr} {fdT fdO : FuncData} (F : Fun K "_law_kept" "_law_kept" s_kept f fd) (T : Blt mg) (D_take : DefOk P w K mg base 2 "_law_take" fT fdT ["_law_state", "_law_many_here"] spTake)
    (D_one : DefOk P w K mg base 3 "_law_one" fO fdO ["_law_state", "_law_things"] (spOne K)) : FnOk P w K mg base CX0 4 f fd ["_law_state", "_law_many_here"] spKept := by
  refine F.ok sc_kept (fun vs H Q E h => ?_) (fun cdv A outer s H vs Q E hr h => ?_)
  · obtain ⟨st, c, m, rfl, _⟩ := h
    rfl
  · obtain ⟨st, c, m, rfl, S, hm, k⟩ := h
    refine ⟨_, (pss_cons (ps_asg (pe_tup (pa_cons (pe_d D_one (hr.mono (by decide)) (pa_cons (pv 0) (pa_cons (pe_tup (pa_cons pe_int (pa_cons pe_int (pa_cons pe_int (pa_cons pe_int (pa_cons pe_int pa_nil)))))) pa_nil))) (pa_cons (pe_d D_take (hr.mono (by decide)) (pa_cons (pv 0) (pa_cons pe_int pa_nil))) pa_nil))) (pg_tup rfl (pgs_cons (pg_name (i := 2) sc_kept.nd rfl (by first | exact Or.inl rfl | exact Or.inr rfl)) (pgs_cons (pg_name (i := 3) sc_kept.nd rfl (by first | exact Or.inl rfl | exact Or.inr rfl)) pgs_nil))))
        (pss_one (ps_ret (pe_lc (own := [("_law_k", 4)]) (g := gName 4) (tt := (tTest (tOp rEq (tOp rEq (tCall spTake [] E0 (tCons (tVar 0) (tCons (tVar 2) tNil))) (tC (.int 0))) (tOp rEq (tVar 3) (tC (.int 0)))))) (te := (tVar 4)) rfl sc_kept.nd (pi_range1 rfl T.b_range (pa_cons (pv 1) pa_nil)) (blkOk_by (own := [("_law_k", 4)]) (by kernel_rfl)) (fun _ _ _ _ _ => (pg_name (i := 4) sc_kept.nd rfl (by first | exact Or.inl rfl | exact Or.inr rfl))) (fun _ _ _ _ _ => by exact (pts_one (pt_cmpR op_eq (pe_cmpR op_eq (pe_d D_take (hr.mono (by decide)) (pa_cons (pv 0) (pa_cons (pv 2) pa_nil))) pe_int (nomark _)) (pe_cmpR op_eq (pv 3) pe_int (nomark _)) (nomark _)))) (fun _ _ _ _ _ => by exact (pv 4)))))), ?_⟩
    refine ⟨_, rfl, by show 5 ≤ sizeLine; decide, fun t nt => ?_⟩
    have hts := (S.of_new nt).1
    refine ⟨st, c, t, _, rfl, S.same (Same.upd' nt), hts, SqT.of upd_same, by show 0 < 5; decide, by show 5 < _; decide, fun v H1 hv S1 e1 => ?_⟩
    obtain ⟨wide, rfl, w0, w1⟩ : ∃ n : Int, v = .int n ∧ 0 < n ∧ n < 100 := by
      simp only [List.mem_cons, List.not_mem_nil, or_false] at hv
      rcases hv with rfl | rfl | rfl | rfl | rfl <;> exact ⟨_, rfl, by decide, by decide⟩
    refine ⟨_, rfl, st, c, 2, rfl, S1, by decide, by decide, fun side H2 s0 s1 S2 e2 => ?_⟩
    have e12 : Kp st H H2 := ((Kp.of (Same.upd' nt)).trans e1).trans e2
    refine ⟨by show 2 ≤ sizeLine; decide, fun t2 nt2 => ?_⟩
    refine ⟨t2, _, rfl, SqT.of upd_same, rfl, _, _, rfl, _, _, rfl, rfl, ?_⟩
    have S3 : StAt (upd H2 t2 (.tup [.int wide, .int side])) st c := S2.same (Same.upd' nt2)
    have e3 : Kp st H (upd H2 t2 (.tup [.int wide, .int side])) := e12.trans (Kp.of (Same.upd' nt2))
    refine ⟨_, rfl, _, rfl, by omega, by omega, fun D nD => ?_⟩
    have nDH : H D = none := e3.free (S3.of_new nD).1 nD
    refine lc_range (lo := 0) (n := (m : Int).toNat) (fun i H' => StAt H' st c ∧ Kp st H H' ∧ ∃ S : Nat → Bool, H' D = some (.lst (((List.range i).filter S).map fun i : Nat => V.int i))) ⟨S3.same (Same.upd' nD), Kp.mut e3 nDH, fun _ => false, upd_same⟩ ?_ ?_
    · rintro i H' hi ⟨S', e, B, hB⟩
      refine ⟨rfl, ?_⟩
      refine ⟨_, rfl, _, rfl, st, c, wide, rfl, S', w0, by omega, fun d H4 d0 d1 S4 e4 => ?_⟩
      refine ⟨rfl, _, rfl, rfl, rfl, _, rfl, ?_⟩
      have hDs := (S3.of_new nD).1
      have hDc := (S3.of_new nD).2
      have hB4 := e4 _ _ hDs hB
      have z : (0 : Int) + (i : Int) = (i : Int) := by omega
      refine ite2 (fun _ => ?_) (fun _ => ?_)
      · refine ⟨_, rfl, _, hB4, small1000 (by simp; exact Nat.le_trans (List.length_filter_le _ _) (by simp; omega)), S4.mut hDs hDc, Kp.mut (e.trans e4) nDH, fun j => if j = i then true else B j, ?_⟩
        rw [upd_same, List.range_succ, List.filter_append, List.map_append]
        have e5 : (List.range i).filter (fun j => if j = i then true else B j) = (List.range i).filter B := List.filter_congr fun j hj => by
          have : j ≠ i := by have := List.mem_range.mp hj; omega
          simp [this]
        rw [e5]
        simp
      · refine ⟨S4, e.trans e4, fun j => if j = i then false else B j, ?_⟩
        rw [hB4, List.range_succ, List.filter_append]
        have e5 : (List.range i).filter (fun j => if j = i then false else B j) = (List.range i).filter B := List.filter_congr fun j hj => by
          have : j ≠ i := by have := List.mem_range.mp hj; omega
          simp [this]
        rw [e5]
        simp
    · rintro H' ⟨S', e, B, hB⟩
      exact k D B H' nDH S' e (by simpa using hB)
end
end Lm

namespace Lm
open PySem L2
section
variable {P : Program} {w : World} {K : PySem.W.Frag} {mg : Str → Option Value} {base : Heap} {f : Addr} {fd : FuncData}
abbrev c_LETTERS : V := .str "abcdefghijklmnopqrstuvwxyz"
abbrev c_LONGEST_WORD : V := .int 8
/-- the module's constants -/
structure Cst (mg : Str → Option Value) (tL tW : Tok) : Prop where
  g_LETTERS : mg "LETTERS" = some (.str "abcdefghijklmnopqrstuvwxyz" tL)
  g_LONGEST_WORD : mg "LONGEST_WORD" = some (.int 8 tW)
def SeqAt (H : Hp) (a : Addr) (xs : List V) : Prop := H a = some (.lst xs) ∨ H a = some (.tup xs)
/-- is_number: of an int -/
def spIsNum : Sp := fun vs H Q _ => ∃ i : Int, vs = [.int i] ∧ Q (.bl true) H
abbrev s_is_number : Stmt := top 4
theorem sc_is_number : FnScope ["x"] ["x"] (defScope s_is_number) := ⟨rfl, rfl, rfl, by decide +kernel, rfl, by decide +kernel, by decide +kernel⟩
theorem ok_is_number (F : Fun K "is_number" "is_number" s_is_number f fd) (T : Blt mg) : FnOk P w K mg base CX0 1 f fd ["x"] spIsNum := by
  refine F.ok sc_is_number (fun vs H Q E h => ?_) (fun cdv A outer s H vs Q E hr h => ?_)
  · obtain ⟨i, rfl, _⟩ := h
    rfl
  · obtain ⟨i, rfl, k⟩ := h
    refine ⟨_, (pss_one (ps_ret (pe_and (pe_callB call_isi (by rfl) T.b_isinstance (by decide +kernel) (pa_cons (pv 0) (pa_cons (pe_bltn (v := .ty "int") (u := .type "int") (by rfl) T.b_int (by decide +kernel) rfl) pa_nil))) (pe_one (pe_not (pe_callB call_isi (by rfl) T.b_isinstance (by decide +kernel) (pa_cons (pv 0) (pa_cons (pe_bltn (v := .ty "bool") (u := .type "bool") (by rfl) T.b_bool (by decide +kernel) rfl) pa_nil)))))))), ?_⟩
    refine ⟨_, rfl, _, _, _, _, true, rfl, .ty _, .base (.int i), kit_ty (by decide +kernel), true, rfl, iteT ?_⟩
    exact ⟨_, rfl, _, _, _, _, false, rfl, .ty _, .base (.int i), kit_ty (by decide +kernel), false, rfl, k⟩
def spUpTo : Sp := fun vs H Q _ => ∃ i n : Int, vs = [.int i, .int n] ∧ Q (.bl (decide (0 ≤ i ∧ i ≤ n))) H
abbrev s_is_up_to : Stmt := top 5
theorem sc_is_up_to : FnScope ["x", "most"] ["x", "most"] (defScope s_is_up_to) := ⟨rfl, rfl, rfl, by decide +kernel, rfl, by decide +kernel, by decide +kernel⟩
theorem ok_is_up_to {fN : Addr} {fdN : FuncData} (F : Fun K "is_up_to" "is_up_to" s_is_up_to f fd) (T : Blt mg) (D_is_number : DefOk P w K mg base 1 "is_number" fN fdN ["x"] spIsNum) : FnOk P w K mg base CX0 2 f fd ["x", "most"] spUpTo := by
  refine F.ok sc_is_up_to (fun vs H Q E h => ?_) (fun cdv A outer s H vs Q E hr h => ?_)
  · obtain ⟨i, n, rfl, _⟩ := h
    rfl
  · obtain ⟨i, n, rfl, k⟩ := h
    refine ⟨_, (pss_one (ps_ret (pe_and (pe_d D_is_number (hr.mono (by decide)) (pa_cons (pv 0) pa_nil)) (pe_one (pe_chain op_le op_le pe_int (pv 0) (pv 1)))))), ?_⟩
    refine ⟨_, rfl, i, rfl, true, rfl, iteT ?_⟩
    refine ⟨_, rfl, _, _, rfl, rfl, _, rfl, ite2 (fun h0 => ?_) (fun h0 => ?_)⟩
    · have h0 := of_decide_eq_true h0
      refine ⟨_, rfl, _, _, rfl, rfl, ?_⟩
      have e : decide (i ≤ n) = decide (0 ≤ i ∧ i ≤ n) := by simp [h0]
      have q : Q (.bl (decide (i ≤ n))) H := by rw [e]; exact k
      exact q
    · have h0 : ¬ (0 ≤ i) := fun z => h0 (decide_eq_true z)
      have e : decide (0 ≤ i ∧ i ≤ n) = false := by simp [h0]
      rw [e] at k; exact k
def spIsRow : Sp := fun vs H Q _ => ∃ a xs, vs = [.ref a] ∧ SeqAt H a xs ∧ ∀ H', Same H H' → Q (.bl true) H'
abbrev s_is_row : Stmt := top 6
theorem sc_is_row : FnScope ["x"] ["x"] (defScope s_is_row) := ⟨rfl, rfl, rfl, by decide +kernel, rfl, by decide +kernel, by decide +kernel⟩
theorem ok_is_row (F : Fun K "is_row" "is_row" s_is_row f fd) (T : Blt mg) : FnOk P w K mg base CX0 1 f fd ["x"] spIsRow := by
  refine F.ok sc_is_row (fun vs H Q E h => ?_) (fun cdv A outer s H vs Q E hr h => ?_)
  · obtain ⟨a, xs, rfl, _⟩ := h
    rfl
  · obtain ⟨a, xs, rfl, hq, k⟩ := h
    refine ⟨_, (pss_one (ps_ret (pe_callB call_isiT (by rfl) T.b_isinstance (by decide +kernel) (pa_cons (pv 0) (pa_cons (pe_tup (pa_cons (pe_bltn (v := .ty "list") (u := .type "list") (by rfl) T.b_list (by decide +kernel) rfl) (pa_cons (pe_bltn (v := .ty "tuple") (u := .type "tuple") (by rfl) T.b_tuple (by decide +kernel) rfl) pa_nil))) pa_nil))))), ?_⟩
    refine ⟨_, rfl, by show 2 ≤ sizeLine; decide, fun p np => ?_⟩
    rcases hq with hq | hq
    · exact ⟨_, _, _, _, _, true, rfl, upd_same, .cons (.ty _) (.cons (.ty _) .nil), .base (.lst (by rw [upd_ne (ne_of_none hq np)]; exact hq)), kitAny_cons (b := true) (kit_ty (by decide +kernel)) (fun z => nomatch z) (fun _ => rfl), k _ (Same.upd' np)⟩
    · exact ⟨_, _, _, _, _, true, rfl, upd_same, .cons (.ty _) (.cons (.ty _) .nil), .base (.tup (by rw [upd_ne (ne_of_none hq np)]; exact hq)), kitAny_cons (b := false) (kit_ty (by decide +kernel)) (fun _ => kitAny_cons (b := true) (kit_ty (by decide +kernel)) (fun z => nomatch z) (fun _ => rfl)) (fun z => nomatch z), k _ (Same.upd' np)⟩
theorem isW_sign (c : Nat) : decide (c ∈ ("abcdefghijklmnopqrstuvwxyz" : Str).cps.toList) = (decide (97 ≤ c) && decide (c ≤ 122)) := by
  have e : ("abcdefghijklmnopqrstuvwxyz" : Str).cps.toList = List.range' 97 26 := by decide +kernel
  rw [e]
  simp only [List.mem_range'_1]
  by_cases h1 : 97 ≤ c <;> by_cases h2 : c ≤ 122 <;> simp [h1, h2] <;> omega
def spIsWord : Sp := fun vs H Q _ => ∃ x : Str, vs = [.str x] ∧ x.cps.size ≤ 1000 ∧ ∀ H', Same H H' → Q (.bl (isW x)) H'
abbrev s_is_word : Stmt := top 7
theorem sc_is_word : FnScope ["x", "sign"] ["x"] (defScope s_is_word) := ⟨rfl, rfl, rfl, by decide +kernel, rfl, by decide +kernel, by decide +kernel⟩
theorem ok_is_word (F : Fun K "is_word" "is_word" s_is_word f fd) (T : Blt mg) {tL tW : Tok} (T' : Cst mg tL tW) : FnOk P w K mg base CX0 1 f fd ["x"] spIsWord := by
  refine F.ok sc_is_word (fun vs H Q E h => ?_) (fun cdv A outer s H vs Q E hr h => ?_)
  · obtain ⟨x, rfl, _⟩ := h
    rfl
  · obtain ⟨x, rfl, hx, k⟩ := h
    refine ⟨_, (pss_cons (ps_if (pt_not (pt_val (pe_callB call_isi (by rfl) T.b_isinstance (by decide +kernel) (pa_cons (pv 0) (pa_cons (pe_bltn (v := .ty "str") (u := .type "str") (by rfl) T.b_str (by decide +kernel) rfl) pa_nil))))) (pss_one (ps_ret pe_bl)) pss_nil)
        (pss_one (ps_ret (pe_and (pe_chain op_le op_le pe_int (pe_callB call_len_str (by rfl) T.b_len PySem.boot_len (pa_cons (pv 0) pa_nil)) (pe_glob (v := c_LONGEST_WORD) rfl T'.g_LONGEST_WORD ⟨_, rfl⟩)) (pe_one (pe_callB (cr_all rfl) (by rfl) T.b_all (by decide +kernel) (by exact (pa_cons (pe_lc (own := [("sign", 1)]) (g := gName 1) (tt := tYes)/- R cmp -/ rfl sc_is_word.nd (pi_str (pv 0)) (blkOk_by (own := [("sign", 1)]) (by kernel_rfl)) (fun _ _ _ _ _ => (pg_name (i := 1) sc_is_word.nd rfl (by first | exact Or.inl rfl | exact Or.inr rfl))) (fun _ _ _ _ _ => pts_nil) (fun _ _ _ _ _ => by exact (pe_cmpR op_in_sign (pv 1) (pe_glob (v := c_LETTERS) rfl T'.g_LETTERS ⟨_, rfl⟩) rfl))) pa_nil)))))))), ?_⟩
    refine ⟨_, rfl, _, _, _, _, true, rfl, .ty _, .base (.str x), kit_ty (by decide +kernel), true, rfl, ?_⟩
    have hx' : x.length ≤ sizeLine := Nat.le_of_lt (small1000 hx)
    have hl : x.length = x.cps.size := rfl
    refine ⟨_, rfl, _, rfl, hx', _, _, rfl, rfl, _, rfl, ite2 (fun h0 => ?_) (fun h0 => ?_)⟩
    · have h0 : 1 ≤ x.cps.size := by have := of_decide_eq_true h0; omega
      refine ⟨_, _, rfl, rfl, _, rfl, ite2 (fun h1 => ?_) (fun h1 => ?_)⟩
      · have h1 : x.cps.size ≤ 8 := by have := of_decide_eq_true h1; omega
        refine ⟨_, rfl, x, rfl, fun D nD => lc_it walk_str (fun j H' => Same H H' ∧ H' D = some (.lst (((x.cps.toList.take j).map fun c => decide (97 ≤ c) && decide (c ≤ 122)).map V.bl))) ⟨Same.upd' nD, upd_same⟩ (fun _ _ _ _ => True.intro) ?_ ?_⟩
        · rintro j y H' H'' hj ⟨e, hD⟩ ⟨rfl, c, hc, rfl⟩
          refine ⟨rfl, _, rfl, _, _, rfl, rfl, _, hD, small1000 (by simp; omega), Same.mut e nD, ?_⟩
          have hc' : x.cps.toList[j]? = some c := by simpa using hc
          rw [upd_same, List.take_succ, hc', isW_sign]
          simp
        · rintro H' ⟨e, hD⟩
          refine ⟨_, _, rfl, SqL.of hD, ?_⟩
          have e2 : (((x.cps.toList.take x.cps.size).map fun c => decide (97 ≤ c) && decide (c ≤ 122)).all id) = isW x := by
            unfold isW
            rw [show x.cps.size = x.cps.toList.length from by simp, List.take_length]
            simp [h0, h1]
          have q := k H' e
          rw [← e2] at q
          exact q
      · have h1 : ¬ x.cps.size ≤ 8 := fun z => h1 (decide_eq_true (by show (x.length : Int) ≤ 8; omega))
        have e2 : isW x = false := by unfold isW; simp [h1]
        have q := k H (Same.refl H)
        rw [e2] at q
        exact q
    · have h0 : ¬ 1 ≤ x.cps.size := fun z => h0 (decide_eq_true (by show (1 : Int) ≤ x.length; omega))
      have e2 : isW x = false := by unfold isW; simp [h0]
      have q := k H (Same.refl H)
      rw [e2] at q
      exact ⟨false, rfl, q⟩
end
end Lm

namespace Lm
open PySem L2
/-! ### a work as it stands in the heap -/
theorem n_nw : ¬ (("name" : Str) = "words") := by decide +kernel
theorem n_ne : ¬ (("name" : Str) = "ends") := by decide +kernel
theorem n_we : ¬ (("words" : Str) = "ends") := by decide +kernel
def wkF (nm : Str) (t d : Addr) : List (Str × V) := [("name", .str nm), ("words", .ref t), ("ends", .ref d)]
theorem wk_name (nm : Str) (t d : Addr) : (wkF nm t d).lookup ("name" : Str) = some (.str nm) := by simp [wkF, List.lookup]
theorem wk_words (nm : Str) (t d : Addr) : (wkF nm t d).lookup ("words" : Str) = some (.ref t) := by
  have e : (("words" : Str) == "name") = false := by decide +kernel
  simp [wkF, List.lookup, e]
theorem wk_ends (nm : Str) (t d : Addr) : (wkF nm t d).lookup ("ends" : Str) = some (.ref d) := by
  have e : (("ends" : Str) == "name") = false := by decide +kernel
  have e2 : (("ends" : Str) == "words") = false := by decide +kernel
  simp [wkF, List.lookup, e, e2]
theorem wk_no (nm : Str) (t d : Addr) {m : Str} (h1 : (m == "name") = false) (h2 : (m == "words") = false) (h3 : (m == "ends") = false) : (wkF nm t d).lookup m = none := by simp [wkF, List.lookup, h1, h2, h3]
theorem wk_put (nm : Str) (t d : Addr) : putF "ends" (.ref d) (putF "words" (.ref t) (putF "name" (.str nm) [])) = wkF nm t d := by
  simp [putF, wkF, n_nw, n_ne, n_we]
theorem wk_l1 (nm : Str) : (putF "name" (.str nm) []).length < 1000 := by simp [putF]
theorem wk_l2 (nm : Str) (t : Addr) : (putF "words" (.ref t) (putF "name" (.str nm) [])).length < 1000 := by simp [putF, n_nw]
/-- the cuts behind the words -/
def endsL : Nat → List Str → List (Key × V)
  | _, [] => []
  | n, x :: r => (Sum.inr x, V.int ((n : Int) + 1)) :: endsL (n + 1) r
theorem endsL_len : ∀ n ws, (endsL n ws).length = ws.length
  | _, [] => rfl
  | n, x :: r => by show (endsL (n + 1) r).length + 1 = r.length + 1; rw [endsL_len]
theorem endsL_app : ∀ n ws x, endsL n (ws ++ [x]) = endsL n ws ++ [(Sum.inr x, V.int ((n : Int) + (ws.length : Int) + 1))]
  | n, [], x => by simp [endsL]
  | n, y :: r, x => by
    show _ :: endsL (n + 1) (r ++ [x]) = _ :: (endsL (n + 1) r ++ _)
    rw [endsL_app (n + 1) r x]
    congr 4
    simp only [List.length_cons]
    congr 1
    omega
theorem endsL_no : ∀ n ws (x : Str), x ∉ ws → valV (endsL n ws) (Sum.inr x : Key) = none
  | _, [], _, _ => rfl
  | n, y :: r, x, h => by
    have h1 : ¬ ((Sum.inr y : Key) = Sum.inr x) := fun e => h (by rw [← Sum.inr.inj e]; exact List.mem_cons_self)
    unfold endsL
    rw [valV_neg h1]
    exact endsL_no (n + 1) r x fun z => h (List.mem_cons_of_mem _ z)
theorem endsL_at : ∀ n ws (i : Nat) (x : Str), ws.Nodup → ws[i]? = some x → valV (endsL n ws) (Sum.inr x : Key) = some (V.int ((n : Int) + (i : Int) + 1))
  | _, [], i, _, _, h => by simp at h
  | n, y :: r, 0, x, _, h => by
    have e : y = x := Option.some.inj h
    subst e
    unfold endsL
    rw [valV_pos rfl]
    simp
  | n, y :: r, i + 1, x, nd, h => by
    have hx : r[i]? = some x := h
    have ne : ¬ ((Sum.inr y : Key) = Sum.inr x) := fun e => (List.nodup_cons.mp nd).1 (by rw [Sum.inr.inj e]; exact List.mem_of_getElem? hx)
    unfold endsL
    rw [valV_neg ne, endsL_at (n + 1) r i x (List.nodup_cons.mp nd).2 hx]
    congr 2
    omega
/-- the work of the name nm and the words ws, at a -/
structure WkAt (C : Addr) (H : Hp) (a : Addr) (nm : Str) (ws : List Str) : Prop where
  ob : ∃ dx t d, H a = some (.ins C dx (wkF nm t d)) ∧ H t = some (.tup (ws.map V.str)) ∧ H d = some (.dK (endsL 0 ws))
theorem WkAt.same {C : Addr} {H H' : Hp} {a : Addr} {nm : Str} {ws : List Str} (k : WkAt C H a nm ws) (e : Same H H') : WkAt C H' a nm ws := by
  obtain ⟨⟨dx, t, d, h1, h2, h3⟩⟩ := k
  exact ⟨⟨dx, t, d, e _ _ h1, e _ _ h2, e _ _ h3⟩⟩
/-- what stands at st changes, a list -/
theorem WkAt.kp {C st : Addr} {H H' : Hp} {a : Addr} {nm : Str} {ws : List Str} {xs : List V} (k : WkAt C H a nm ws) (e : Kp st H H') (hs : H st = some (.lst xs)) : WkAt C H' a nm ws := by
  obtain ⟨⟨dx, t, d, h1, h2, h3⟩⟩ := k
  exact ⟨⟨dx, t, d, e _ _ (ne_of h1 hs (by intro z; cases z)) h1, e _ _ (ne_of h2 hs (by intro z; cases z)) h2, e _ _ (ne_of h3 hs (by intro z; cases z)) h3⟩⟩
/-- for i, x in enumerate(a), a list or a tuple that stands still -/
theorem for_enumA {K : PySem.W.Frag} {a : Addr} {xs : List V} {g : TG} {tb : TS} {D : Ends} {σ : St} {H : Hp} (hq : SeqAt H a xs) (Pv : Nat → St → Hp → Prop) (h0 : Pv 0 σ H) (hG : ∀ i σ' H', i ≤ xs.length → Pv i σ' H' → ∀ o, H a = some o → H' a = some o)
    (hs : ∀ i x σ H H', i < xs.length → Pv i σ H → YPair (fun i => some (.int (i : Nat))) (fun i => xs[i]?) i H x H' → g x σ H' fun σ2 H2 => tb { D with nx := Pv (i + 1), ct := Pv (i + 1), bk := D.nx } σ2 H2) (hd : ∀ σ H, Pv xs.length σ H → D.nx σ H) :
    ∃ a' xs', [V.ref a] = [V.ref a'] ∧ ((SqL K H a' xs' ∧ ∃ W : Nat → Nat → St → Hp → Prop, (∃ m, W 0 m σ H) ∧ ∀ i m σ H, W i m σ H →
      ((Ite K a').stop i H ∧ D.nx σ H) ∨ ((Ite K a').go i H ∧ ∃ N : St → Hp → Prop, (∀ σ' H', N σ' H' → ∃ m', m' < m ∧ W (i + 1) m' σ' H') ∧ ∀ x H', (Ite K a').yld i H x H' → g x σ H' fun σ2 H2 => tb { D with nx := N, ct := N, bk := D.nx } σ2 H2)) ∨
      (SqT K H a' xs' ∧ ∃ W : Nat → Nat → St → Hp → Prop, (∃ m, W 0 m σ H) ∧ ∀ i m σ H, W i m σ H →
      ((IteT K a').stop i H ∧ D.nx σ H) ∨ ((IteT K a').go i H ∧ ∃ N : St → Hp → Prop, (∀ σ' H', N σ' H' → ∃ m', m' < m ∧ W (i + 1) m' σ' H') ∧ ∀ x H', (IteT K a').yld i H x H' → g x σ H' fun σ2 H2 => tb { D with nx := N, ct := N, bk := D.nx } σ2 H2))) := by
  rcases hq with hq | hq
  · exact ⟨a, xs, rfl, .inl ⟨SqL.of hq, for_it walk_enum Pv h0 (fun i σ' H' hi p => SqL.of (hG i σ' H' hi p _ hq)) hs hd⟩⟩
  · exact ⟨a, xs, rfl, .inr ⟨SqT.of hq, for_it walk_enumT Pv h0 (fun i σ' H' hi p => SqT.of (hG i σ' H' hi p _ hq)) hs hd⟩⟩
section
variable {P : Program} {w : World} {K : PySem.W.Frag} {mg : Str → Option Value} {base : Heap} {f : Addr} {fd : FuncData}
/-- what the walk asks of the class Work -/
structure WkTxt (K : PySem.W.Frag) (C : Addr) : Prop where
  cl : Cls K C
  nN : NoAttr K C "name"
  nW : NoAttr K C "words"
  nE : NoAttr K C "ends"
def spWkInit (C : Addr) : Sp := fun vs H Q _ => ∃ (p dx a : Addr) (nm : Str) (ws : List Str), vs = [.ref p, .str nm, .ref a] ∧ H p = some (.ins C dx []) ∧ SeqAt H a (ws.map V.str) ∧ isW nm = true ∧ Wds ws ws.length ∧ 0 < ws.length ∧ ws.length ≤ 60 ∧
  ∀ H', WkAt C H' p nm ws → Kp p H H' → Q .non H'
abbrev s_Work_init : Stmt := inClass (top 17) 0
theorem sc_Work_init : FnScope ["self", "name", "passages", "ends", "index", "word"] ["self", "name", "passages"] (defScope s_Work_init) := ⟨rfl, rfl, rfl, by decide +kernel, rfl, by decide +kernel, by decide +kernel⟩
theorem isW_size {x : Str} (h : isW x = true) : x.cps.size ≤ 1000 := by
  unfold isW at h
  simp at h
  omega
theorem ok_wk_init {C fI fR : Addr} {fdI fdR : FuncData} (F : Fun K "__init__" "Work.__init__" s_Work_init f fd) (T : Blt mg) (W : WkTxt K C) (D_is_word : DefOk P w K mg base 1 "is_word" fI fdI ["x"] spIsWord) (D_is_row : DefOk P w K mg base 1 "is_row" fR fdR ["x"] spIsRow) :
    FnOk P w K mg base CX0 2 f fd ["self", "name", "passages"] (spWkInit C) := by
  refine F.ok sc_Work_init (fun vs H Q E h => ?_) (fun cdv A outer s H vs Q E hr h => ?_)
  · obtain ⟨p, dx, a, nm, ws, rfl, _⟩ := h
    rfl
  · obtain ⟨p, dx, a, nm, ws, rfl, hp, hq, hnm, hw, l0, l1, k⟩ := h
    have hu := hu_of hr
    have hap : a ≠ p := by
      rcases hq with hq | hq
      · exact ne_of hq hp (by intro z; cases z)
      · exact ne_of hq hp (by intro z; cases z)
    refine ⟨_, (pss_cons (ps_if (pt_not (pt_val (pe_d D_is_word (hr.mono (by decide)) (pa_cons (pv 1) pa_nil)))) (pss_one ps_never) pss_nil)
        (pss_cons (ps_if (PW.pt (pw_or (pt_not (pt_val (pe_d D_is_row (hr.mono (by decide)) (pa_cons (pv 2) pa_nil)))) (pw_or1 (pt_cmpR op_eq (pe_callB call_len_seq (by rfl) T.b_len PySem.boot_len (pa_cons (pv 2) pa_nil)) pe_int (nomark _))))) (pss_one ps_never) pss_nil)
        (pss_cons (ps_set (i := 3) sc_Work_init.nd rfl (by first | exact Or.inl rfl | exact Or.inr rfl) pe_dnewK)
        (pss_cons (ps_for PassesOwn.never rfl (pi_enumA rfl T.b_enumerate (pa_cons (pv 2) pa_nil)) (pg_tup rfl (pgs_cons (pg_name (i := 4) sc_Work_init.nd rfl (by first | exact Or.inl rfl | exact Or.inr rfl)) (pgs_cons (pg_name (i := 5) sc_Work_init.nd rfl (by first | exact Or.inl rfl | exact Or.inr rfl)) pgs_nil))) (pss_cons (ps_if (PW.pt (pw_or (pt_not (pt_val (pe_d D_is_word (hr.mono (by decide)) (pa_cons (pv 5) pa_nil)))) (pw_or1 (pt_cmp (pc_din hu (pv 5) (pv 3)))))) (pss_one ps_never) pss_nil)
        (pss_one (ps_dput hu (pv 3) (pv 5) (pe_op op_add (pv 4) pe_int) rfl))))
        (pss_cons (ps_fld (pv 0) (pv 1) rfl)
        (pss_cons (ps_fld (pv 0) (pe_callTy call_tuple_of (by rfl) T.b_tuple (by decide +kernel) (pa_cons (pv 2) pa_nil)) rfl)
        (pss_one (ps_fld (pv 0) (pv 3) rfl)))))))), ?_⟩
    refine ⟨_, rfl, nm, rfl, isW_size hnm, fun H1 e1 => ⟨_, rfl, ?_⟩⟩
    rw [hnm]
    have hq1 : SeqAt H1 a (ws.map V.str) := hq.elim (fun h => .inl (e1 _ _ h)) fun h => .inr (e1 _ _ h)
    refine ⟨_, rfl, a, _, rfl, hq1, fun H2 e2 => ⟨_, rfl, ?_⟩⟩
    have hq2 : SeqAt H2 a (ws.map V.str) := hq1.elim (fun h => .inl (e2 _ _ h)) fun h => .inr (e2 _ _ h)
    have hl : ¬ (V.int ((ws.map V.str).length : Int) = V.int 0) := by
      intro z
      have : ((ws.map V.str).length : Int) = 0 := V.int.inj z
      rw [List.length_map] at this
      omega
    refine ⟨_, rfl, _, _, rfl, (hq2.elim (fun h => .inl (SqL.of h)) fun h => .inr (SqT.of h)), rfl, _, rfl, ?_⟩
    rw [decide_eq_false hl]
    intro d nd
    have hq3 : SeqAt (upd H2 d (.dK [])) a (ws.map V.str) := hq2.elim (fun h => .inl (Same.upd' nd _ _ h)) fun h => .inr (Same.upd' nd _ _ h)
    have eH : Same H (upd H2 d (.dK [])) := (e1.trans e2).trans (Same.upd' nd)
    have ndH : H d = none := (e1.trans e2).free nd
    have hdp : d ≠ p := (ne_of_none hp ndH).symm
    refine ⟨_, rfl, for_enumA hq3 (fun i σ' H' => ∃ u v : Option V, σ' = [some (.ref p), some (.str nm), some (.ref a), some (.ref d), u, v] ∧ H' d = some (.dK (endsL 0 (ws.take i))) ∧ ∀ b o, H b = some o → H' b = some o)
      ⟨none, none, rfl, upd_same, eH⟩ ?_ ?_ ?_⟩
    · rintro i σ' H' _ ⟨u, v, rfl, gd, e⟩ o ho
      rcases hq with hq | hq
      · rw [eH _ _ hq] at ho
        rw [← ho]; exact e _ _ hq
      · rw [eH _ _ hq] at ho
        rw [← ho]; exact e _ _ hq
    · rintro i y σ' H' H'' hi ⟨u, v, rfl, gd, e⟩ ⟨T', x1, x2, rfl, nT, rfl, hx1, hx2⟩
      cases (Option.some.inj hx1)
      have hx2 : (List.map V.str ws)[i]? = some x2 := hx2
      rw [List.getElem?_map] at hx2
      obtain ⟨x, hx, rfl⟩ : ∃ x, ws[i]? = some x ∧ V.str x = x2 := by
        cases q : ws[i]? with
        | none => rw [q] at hx2; cases hx2
        | some x => rw [q] at hx2; exact ⟨x, rfl, Option.some.inj hx2⟩
      have hTd : T' ≠ d := (ne_of_none gd nT).symm
      have gd2 : (upd H' T' (.tup [.int (i : Nat), .str x])) d = some (.dK (endsL 0 (ws.take i))) := by rw [upd_ne hTd.symm]; exact gd
      have hwx : isW x = true := hw.wd x (List.mem_of_getElem? hx)
      have hno : x ∉ ws.take i := fun z => by
        obtain ⟨j, hj, e⟩ := List.mem_iff_getElem.mp z
        rw [List.getElem_take] at e
        have hj' : j < i := by rw [List.length_take] at hj; omega
        have := nd_ix hw.nd (i := j) (j := i) (x := x) (by rw [List.getElem?_eq_getElem (by rw [List.length_take] at hj; omega), e]) hx
        omega
      refine ⟨T', _, rfl, SqT.of upd_same, rfl, _, _, rfl, _, _, rfl, rfl, ?_⟩
      refine ⟨_, rfl, x, rfl, isW_size hwx, fun H3 e3 => ⟨_, rfl, ?_⟩⟩
      rw [hwx]
      have gd3 := e3 _ _ gd2
      refine ⟨_, rfl, _, rfl, d, _, rfl, DGet.k (k := Sum.inr x) gd3, ?_⟩
      rw [endsL_no 0 _ x hno]
      refine ⟨_, rfl, ?_⟩
      refine ⟨_, rfl, _, _, rfl, rfl, _, rfl, _, rfl, d, _, rfl, DPut.k (k := Sum.inr x) gd3 (small1000 (by rw [endsL_len, List.length_take]; omega)), ?_⟩
      refine ⟨_, _, rfl, ?_, ?_⟩
      · rw [upd_same, putK_new _ (endsL_no 0 _ x hno), List.take_succ, hx, Option.toList_some, endsL_app]
        rw [List.length_take, Nat.min_eq_left (by have := (List.getElem?_eq_some_iff.mp hx).1; omega)]
        simp
      · intro b o hb
        have hbd : b ≠ d := ne_of_none hb ndH
        rw [upd_ne hbd]
        exact e3 _ _ (Same.upd' nT _ _ (e _ _ hb))
    · rintro σ' H' ⟨u, v, rfl, gd, e⟩
      rw [List.length_map, List.take_length] at gd
      have hpd : p ≠ d := hdp.symm
      -- behind the words, which lie at t
      have fin : ∀ (t : Addr) (H3 : Hp), H3 p = some (.ins C dx (putF "name" (.str nm) [])) → H3 t = some (.tup (ws.map V.str)) → H3 d = some (.dK (endsL 0 ws)) → Kp p H H3 → t ≠ p → Q .non
          (upd (upd H3 p (.ins C dx (putF "words" (.ref t) (putF "name" (.str nm) [])))) p (.ins C dx (putF "ends" (.ref d) (putF "words" (.ref t) (putF "name" (.str nm) []))))) := by
        intro t H3 g1 g2 g3 g4 htp
        refine k _ ⟨⟨dx, t, d, by rw [upd_same, wk_put], by rw [upd_ne htp, upd_ne htp]; exact g2, by rw [upd_ne hdp, upd_ne hdp]; exact g3⟩⟩ ((g4.trans (Kp.upd _ _ _)).trans (Kp.upd _ _ _))
      refine ⟨_, rfl, _, rfl, p, C, dx, _, rfl, e _ _ hp, W.cl, W.nN, by decide, ?_⟩
      have kp3 : Kp p H (upd H' p (.ins C dx (putF "name" (.str nm) []))) := (Kp.of e).trans (Kp.upd _ _ _)
      rcases hq with hq | hq
      · refine ⟨_, rfl, a, _, rfl, .inl ⟨SqL.of (kp3 _ _ hap hq), fun t nt => ?_⟩⟩
        have htp : t ≠ p := (ne_of_none upd_same nt).symm
        have htd : t ≠ d := (ne_of_none (by rw [upd_ne hdp]; exact gd) nt).symm
        have g1 : (upd (upd H' p (.ins C dx (putF "name" (.str nm) []))) t (.tup (ws.map V.str))) p = some (.ins C dx (putF "name" (.str nm) [])) := by rw [upd_ne htp.symm, upd_same]
        refine ⟨_, rfl, p, C, dx, _, rfl, g1, W.cl, W.nW, wk_l1 _, ?_⟩
        refine ⟨_, rfl, _, rfl, p, C, dx, _, rfl, upd_same, W.cl, W.nE, wk_l2 _ _, ?_⟩
        exact fin t _ g1 upd_same (by rw [upd_ne htd.symm, upd_ne hdp]; exact gd) (kp3.trans (Kp.of (Same.upd' nt))) htp
      · refine ⟨_, rfl, a, _, rfl, .inr ⟨SqT.of (kp3 _ _ hap hq), ?_⟩⟩
        refine ⟨_, rfl, p, C, dx, _, rfl, upd_same, W.cl, W.nW, wk_l1 _, ?_⟩
        refine ⟨_, rfl, _, rfl, p, C, dx, _, rfl, upd_same, W.cl, W.nE, wk_l2 _ _, ?_⟩
        exact fin a _ upd_same (kp3 _ _ hap hq) (by rw [upd_ne hdp]; exact gd) kp3 hap
end
end Lm

namespace Lm
open PySem L2
theorem valV_mem {ws : List Str} (nd : ws.Nodup) (x : Str) : (valV (endsL 0 ws) (Sum.inr x : Key)).isSome = decide (x ∈ ws) := by
  by_cases h : x ∈ ws
  · obtain ⟨i, hi, e⟩ := List.mem_iff_getElem.mp h
    rw [endsL_at 0 ws i x nd (by rw [List.getElem?_eq_getElem hi, e]), decide_eq_true h]
    rfl
  · rw [endsL_no 0 ws x h, decide_eq_false h]
    rfl
section
variable {P : Program} {w : World} {K : PySem.W.Frag} {mg : Str → Option Value} {base : Heap} {f : Addr} {fd : FuncData}
def spWkLen (C : Addr) : Sp := fun vs H Q _ => ∃ (a : Addr) (nm : Str) (ws : List Str), vs = [.ref a] ∧ WkAt C H a nm ws ∧ Q (.int ws.length) H
abbrev s_Work_len : Stmt := inClass (top 17) 4
theorem sc_Work_len : FnScope ["self"] ["self"] (defScope s_Work_len) := ⟨rfl, rfl, rfl, by decide +kernel, rfl, by decide +kernel, by decide +kernel⟩
theorem ok_wk_len {C : Addr} (F : Fun K "__len__" "Work.__len__" s_Work_len f fd) (T : Blt mg) (W : WkTxt K C) : FnOk P w K mg base CX0 1 f fd ["self"] (spWkLen C) := by
  refine F.ok sc_Work_len (fun vs H Q E h => ?_) (fun cdv A outer s H vs Q E hr h => ?_)
  · obtain ⟨a, nm, ws, rfl, _⟩ := h
    rfl
  · obtain ⟨a, nm, ws, rfl, ⟨dx, t, d, h1, h2, h3⟩, k⟩ := h
    refine ⟨_, (pss_one (ps_ret (pe_callB call_len_seq (by rfl) T.b_len PySem.boot_len (pa_cons (pe_fld (pv 0) rfl) pa_nil)))), ?_⟩
    refine ⟨_, rfl, a, C, dx, _, _, rfl, h1, W.cl, W.nW, wk_words _ _ _, t, _, rfl, .inr (SqT.of h2), ?_⟩
    rw [List.length_map]
    exact k
def spWkIn (C : Addr) : Sp := fun vs H Q _ => ∃ (a : Addr) (x nm : Str) (ws : List Str), vs = [.ref a, .str x] ∧ WkAt C H a nm ws ∧ ws.Nodup ∧ Q (.bl (decide (x ∈ ws))) H
abbrev s_Work_contains : Stmt := inClass (top 17) 5
theorem sc_Work_contains : FnScope ["self", "x"] ["self", "x"] (defScope s_Work_contains) := ⟨rfl, rfl, rfl, by decide +kernel, rfl, by decide +kernel, by decide +kernel⟩
theorem ok_wk_in {C : Addr} (F : Fun K "__contains__" "Work.__contains__" s_Work_contains f fd) (T : Blt mg) (W : WkTxt K C) : FnOk P w K mg base CX0 1 f fd ["self", "x"] (spWkIn C) := by
  refine F.ok sc_Work_contains (fun vs H Q E h => ?_) (fun cdv A outer s H vs Q E hr h => ?_)
  · obtain ⟨a, x, nm, ws, rfl, _⟩ := h
    rfl
  · obtain ⟨a, x, nm, ws, rfl, ⟨dx, t, d, h1, h2, h3⟩, nd, k⟩ := h
    have hu := hu_of hr
    refine ⟨_, (pss_one (ps_ret (pe_and (pe_callB call_isi (by rfl) T.b_isinstance (by decide +kernel) (pa_cons (pv 1) (pa_cons (pe_bltn (v := .ty "str") (u := .type "str") (by rfl) T.b_str (by decide +kernel) rfl) pa_nil))) (pe_one (pe_cmp (pc_din hu (pv 1) (pe_fld (pv 0) rfl)) rfl))))), ?_⟩
    refine ⟨_, rfl, _, _, _, _, true, rfl, .ty _, .base (.str x), kit_ty (by decide +kernel), true, rfl, ?_⟩
    refine ⟨_, rfl, _, rfl, a, C, dx, _, _, rfl, h1, W.cl, W.nE, wk_ends _ _ _, d, _, rfl, DGet.k (k := Sum.inr x) h3, ?_⟩
    rw [valV_mem nd]
    exact k
def spWkEnd (C : Addr) : Sp := fun vs H Q _ => ∃ (a : Addr) (x nm : Str) (ws : List Str) (i : Nat), vs = [.ref a, .str x] ∧ WkAt C H a nm ws ∧ ws.Nodup ∧ ws[i]? = some x ∧ Q (.int ((i : Int) + 1)) H
abbrev s_Work_end_of : Stmt := inClass (top 17) 3
theorem sc_Work_end_of : FnScope ["self", "word"] ["self", "word"] (defScope s_Work_end_of) := ⟨rfl, rfl, rfl, by decide +kernel, rfl, by decide +kernel, by decide +kernel⟩
theorem ok_wk_end {C fI : Addr} {fdI : FuncData} (F : Fun K "end_of" "Work.end_of" s_Work_end_of f fd) (T : Blt mg) (W : WkTxt K C) (M_Work_contains : MetOk P w K mg base 1 C "__contains__" fI fdI ["self", "x"] (spWkIn C)) : FnOk P w K mg base CX0 2 f fd ["self", "word"] (spWkEnd C) := by
  refine F.ok sc_Work_end_of (fun vs H Q E h => ?_) (fun cdv A outer s H vs Q E hr h => ?_)
  · obtain ⟨a, x, nm, ws, i, rfl, _⟩ := h
    rfl
  · obtain ⟨a, x, nm, ws, i, rfl, kw, nd, hi, k⟩ := h
    obtain ⟨dx, t, d, h1, h2, h3⟩ := kw.ob
    have hu := hu_of hr
    have hx : x ∈ ws := List.mem_of_getElem? hi
    refine ⟨_, (pss_one (ps_ret (pe_ifExp (pt_cmpR (M_Work_contains.isin (hr.mono (by decide))) (pv 1) (pv 0) (by rfl)) (pe_dget hu (pe_fld (pv 0) rfl) (pv 1) (fun _ _ => rfl)) pe_int))), ?_⟩
    refine ⟨_, rfl, _, rfl, a, dx, _, rfl, h1, a, x, nm, ws, rfl, kw, nd, _, rfl, ?_⟩
    rw [decide_eq_true hx]
    refine ⟨_, rfl, ?_⟩
    have hg : DGet H d (.str x) (some (.int (((0 : Nat) : Int) + (i : Int) + 1))) := by
      have := DGet.k (k := Sum.inr x) h3
      rw [endsL_at 0 ws i x nd hi] at this
      exact this
    have e0 : ((0 : Nat) : Int) + (i : Int) + 1 = (i : Int) + 1 := by omega
    rw [e0] at hg
    exact ⟨_, rfl, a, C, dx, _, _, rfl, h1, W.cl, W.nE, wk_ends _ _ _, _, rfl, d, _, rfl, hg, k⟩
/-! ### == -/
theorem dpAll_strs {H : Hp} : ∀ ws : List Str, DpAll K H (ws.map V.str) (ws.map PyData.str)
  | [] => .nil
  | x :: r => .cons (.str x) (dpAll_strs r)
theorem isW_ok {x : Str} (h : isW x = true) : PyData.strOk x = true := by
  unfold isW at h
  simp only [Bool.and_eq_true, List.all_eq_true, decide_eq_true_eq] at h
  unfold PyData.strOk
  rw [Array.all_eq_true']
  intro c hc
  have := (h.2 c (by simpa using hc)).2
  simp
  omega
theorem depth_strs : ∀ ws : List Str, PyData.depthAll (ws.map PyData.str) = 0
  | [] => rfl
  | x :: r => by
    show max (PyData.depth (.str x)) (PyData.depthAll (r.map PyData.str)) = 0
    rw [depth_strs r]
    rfl
theorem lay_strs : ∀ ws : List Str, (∀ x ∈ ws, isW x = true) → PyData.canLayAll0 (ws.map PyData.str) = true
  | [], _ => rfl
  | x :: r, h => by
    show (PyData.strOk x && PyData.canLayAll0 (r.map PyData.str)) = true
    rw [isW_ok (h x List.mem_cons_self), lay_strs r fun y hy => h y (List.mem_cons_of_mem _ hy)]
    rfl
theorem shaped_strs (ws : List Str) (h : ∀ x ∈ ws, isW x = true) : PySem.SeqAt.shaped (.tuple (ws.map PyData.str)) = true := by
  show (PyData.canLayAll0 (ws.map PyData.str) && decide (PyData.depthAll (ws.map PyData.str) + 1 ≤ 64)) = true
  rw [lay_strs ws h, depth_strs]
  rfl
theorem eqvAll_strs : ∀ ws vs : List Str, PyData.eqvAll (ws.map PyData.str) (vs.map PyData.str) = decide (ws = vs)
  | [], [] => rfl
  | [], _ :: _ => rfl
  | _ :: _, [] => rfl
  | x :: r, y :: t => by
    show ((x == y) && PyData.eqvAll (r.map PyData.str) (t.map PyData.str)) = decide (x :: r = y :: t)
    rw [eqvAll_strs r t]
    by_cases h1 : x = y <;> by_cases h2 : r = t <;> simp [h1, h2]
theorem eqv_strs (ws vs : List Str) : PyData.eqv (.tuple (ws.map PyData.str)) (.tuple (vs.map PyData.str)) = decide (ws = vs) := eqvAll_strs ws vs
def spWkEq (C : Addr) : Sp := fun vs H Q _ => ∃ (a b : Addr) (nm nm' : Str) (ws ws' : List Str), vs = [.ref a, .ref b] ∧ WkAt C H a nm ws ∧ WkAt C H b nm' ws' ∧ (∀ x ∈ ws, isW x = true) ∧ (∀ x ∈ ws', isW x = true) ∧ Q (.bl (decide (nm = nm' ∧ ws = ws'))) H
structure WkIsi (K : PySem.W.Frag) (mg : Str → Option Value) (C : Addr) : Prop where
  g_Work : mg "Work" = some (.ref C)
  ha : PySem.W.findIn K (.ref C) "__class__" = some (some (.builtin "object.__class__"))
  hn : PySem.W.specialIn K (.builtin "object.__class__") "__get__" = some (some (.builtin "getset_descriptor.__get__"))
  htk : PySem.W.takesIn K (.builtin "object.__class__") = some true
  hm : PySem.W.mroIn K C (.type "object") = some true
  ko : PySem.W.kitOne K (.ref C) (.ref C) = some true
abbrev s_Work_eq : Stmt := inClass (top 17) 6
theorem sc_Work_eq : FnScope ["self", "other"] ["self", "other"] (defScope s_Work_eq) := ⟨rfl, rfl, rfl, by decide +kernel, rfl, by decide +kernel, by decide +kernel⟩
theorem ok_wk_eq {C : Addr} (F : Fun K "__eq__" "Work.__eq__" s_Work_eq f fd) (T : Blt mg) (W : WkTxt K C) (T' : WkIsi K mg C) : FnOk P w K mg base CX0 1 f fd ["self", "other"] (spWkEq C) := by
  refine F.ok sc_Work_eq (fun vs H Q E h => ?_) (fun cdv A outer s H vs Q E hr h => ?_)
  · obtain ⟨a, b, nm, nm', ws, ws', rfl, _⟩ := h
    rfl
  · obtain ⟨a, b, nm, nm', ws, ws', rfl, ⟨dx, t, d, h1, h2, h3⟩, ⟨dy, t', d', g1, g2, g3⟩, l1, l2, k⟩ := h
    refine ⟨_, (pss_one (ps_ret (pe_and (pe_callB call_isi (by rfl) T.b_isinstance (by decide +kernel) (pa_cons (pv 1) (pa_cons (pe_glob (v := .ref _) rfl T'.g_Work rfl) pa_nil))) (pe_and (pe_cmpR op_eq (pe_fld (pv 0) rfl) (pe_fld (pv 1) rfl) (nomark _)) (pe_one (pe_cmpR (op_eqD hr.units) (pe_fld (pv 0) rfl) (pe_fld (pv 1) rfl) (nomark _))))))), ?_⟩
    refine ⟨_, rfl, _, _, _, _, true, rfl, .own C, .base (.ins g1 W.cl T'.ha T'.hn T'.htk T'.hm), T'.ko, true, rfl, ?_⟩
    refine ⟨_, rfl, a, C, dx, _, _, rfl, h1, W.cl, W.nN, wk_name _ _ _, _, rfl, b, C, dy, _, _, rfl, g1, W.cl, W.nN, wk_name _ _ _, rfl, _, rfl, ite2 (fun hn => ?_) (fun hn => ?_)⟩
    · have hn : nm = nm' := V.str.inj (of_decide_eq_true hn)
      refine ⟨_, rfl, a, C, dx, _, _, rfl, h1, W.cl, W.nW, wk_words _ _ _, _, rfl, b, C, dy, _, _, rfl, g1, W.cl, W.nW, wk_words _ _ _, _, _, .tup (SqT.of h2) (dpAll_strs ws), .tup (SqT.of g2) (dpAll_strs ws'), shaped_strs ws l1, shaped_strs ws' l2, ?_⟩
      have e : decide (nm = nm' ∧ ws = ws') = decide (ws = ws') := by simp [hn]
      rw [e] at k
      rw [eqv_strs]
      exact k
    · have hn : ¬ nm = nm' := fun z => hn (decide_eq_true (congrArg V.str z))
      have e : decide (nm = nm' ∧ ws = ws') = false := by simp [hn]
      rw [e] at k
      exact k
end
end Lm

namespace Lm
open PySem L2
def nts (l : List Nat) : List V := l.map fun n : Nat => V.int n
theorem nts_len (l : List Nat) : (nts l).length = l.length := List.length_map ..
theorem nts_at {l : List Nat} {i n : Nat} (h : l[i]? = some n) : (nts l)[i]? = some (V.int n) := by
  unfold nts
  rw [List.getElem?_map, h]
  rfl
theorem nts_flat (l : List Nat) : (nts l).all flatV = true := by
  unfold nts
  rw [List.all_eq_true]
  intro x hx
  obtain ⟨n, _, rfl⟩ := List.mem_map.mp hx
  rfl
theorem nts_in (l : List Nat) (n : Nat) : inV (.int n) (nts l) = decide (n ∈ l) := by
  unfold inV nts
  induction l with
  | nil => rfl
  | cons a r ih =>
    rw [List.map_cons, List.any_cons, ih]
    show ((a : Int) == (n : Int) || decide (n ∈ r)) = decide (n ∈ a :: r)
    by_cases h : a = n
    · subst h; simp
    · have h2 : ¬ (a : Int) = (n : Int) := fun z => h (by omega)
      have h3 : ¬ n = a := fun z => h z.symm
      simp [h2, h3]
theorem strs_flat (l : List Str) : (l.map V.str).all flatV = true := by
  rw [List.all_eq_true]
  intro x hx
  obtain ⟨n, _, rfl⟩ := List.mem_map.mp hx
  rfl
theorem strs_in (l : List Str) (x : Str) : inV (.str x) (l.map V.str) = decide (x ∈ l) := by
  unfold inV
  induction l with
  | nil => rfl
  | cons a r ih =>
    rw [List.map_cons, List.any_cons, ih]
    show ((a == x) || decide (x ∈ r)) = decide (x ∈ a :: r)
    by_cases h : a = x
    · subst h; simp
    · have h3 : ¬ x = a := fun z => h z.symm
      simp [h, h3]
section
variable {P : Program} {w : World} {K : PySem.W.Frag} {mg : Str → Option Value} {base : Heap} {f : Addr} {fd : FuncData}
def spCuts (C : Addr) : Sp := fun vs H Q _ => ∃ (wk a : Addr) (nm : Str) (ws : List Str) (S : Nat → Bool), vs = [.ref wk, .ref a] ∧ WkAt C H wk nm ws ∧ ws.Nodup ∧ ws.length ≤ 60 ∧ SeqAt H a ((pick ws S).map V.str) ∧
  ∀ p H', H p = none → Same H H' → H' p = some (.lst (nts (cutsL ws.length S))) → Q (.ref p) H'
abbrev s_cuts_behind : Stmt := top 19
theorem sc_cuts_behind : FnScope ["work", "passages", "cuts", "index", "word", "cut"] ["work", "passages"] (defScope s_cuts_behind) := ⟨rfl, rfl, rfl, by decide +kernel, rfl, by decide +kernel, by decide +kernel⟩
theorem ok_cuts {C fR fE : Addr} {fdR fdE : FuncData} (F : Fun K "cuts_behind" "cuts_behind" s_cuts_behind f fd) (T : Blt mg) (D_is_row : DefOk P w K mg base 1 "is_row" fR fdR ["x"] spIsRow) (M_Work_end_of : MetOk P w K mg base 2 C "end_of" fE fdE ["self", "word"] (spWkEnd C)) :
    FnOk P w K mg base CX0 3 f fd ["work", "passages"] (spCuts C) := by
  refine F.ok sc_cuts_behind (fun vs H Q E h => ?_) (fun cdv A outer s H vs Q E hr h => ?_)
  · obtain ⟨wk, a, nm, ws, S, rfl, _⟩ := h
    rfl
  · obtain ⟨wk, a, nm, ws, S, rfl, kw, nd, l1, hq, k⟩ := h
    refine ⟨_, (pss_cons (ps_if (pt_not (pt_val (pe_d D_is_row (hr.mono (by decide)) (pa_cons (pv 1) pa_nil)))) (pss_one ps_never) pss_nil)
        (pss_cons (ps_set (i := 2) sc_cuts_behind.nd rfl (by first | exact Or.inl rfl | exact Or.inr rfl) (pe_lst (pa_cons pe_int pa_nil)))
        (pss_cons (ps_for PassesOwn.never rfl (pi_enumA rfl T.b_enumerate (pa_cons (pv 1) pa_nil)) (pg_tup rfl (pgs_cons (pg_name (i := 3) sc_cuts_behind.nd rfl (by first | exact Or.inl rfl | exact Or.inr rfl)) (pgs_cons (pg_name (i := 4) sc_cuts_behind.nd rfl (by first | exact Or.inl rfl | exact Or.inr rfl)) pgs_nil))) (pss_cons (ps_set (i := 5) sc_cuts_behind.nd rfl (by first | exact Or.inl rfl | exact Or.inr rfl) (pe_m M_Work_end_of (hr.mono (by decide)) (pv 0) (pa_cons (pv 4) pa_nil)))
        (pss_cons (ps_if (pt_cmpR op_le (pv 5) (pe_ix ix_list (pv 2) (pe_un un_neg pe_int) (fun _ _ => rfl)) (nomark _)) (pss_one ps_never) pss_nil)
        (pss_one (ps_expr (pe_bm PySem.F.plainAttrs_list PySem.F.slot_list_append PySem.F.type_list_append mt_append (pv 2) (pa_cons (pv 5) pa_nil)))))))
        (pss_one (ps_ret (pv 2)))))), ?_⟩
    refine ⟨_, rfl, a, _, rfl, hq, fun H1 e1 => ⟨_, rfl, ?_⟩⟩
    have hq1 : SeqAt H1 a ((pick ws S).map V.str) := hq.elim (fun h => .inl (e1 _ _ h)) fun h => .inr (e1 _ _ h)
    refine ⟨by show 1 ≤ sizeLine; decide, fun p np => ?_⟩
    have npH : H p = none := e1.free np
    have hq2 : SeqAt (upd H1 p (.lst [.int 0])) a ((pick ws S).map V.str) := hq1.elim (fun h => .inl (Same.upd' np _ _ h)) fun h => .inr (Same.upd' np _ _ h)
    have e2 : Same H (upd H1 p (.lst [.int 0])) := e1.trans (Same.upd' np)
    have hl : ((pick ws S).map V.str).length = (idx ws.length S).length := by rw [List.length_map]; unfold pick; rw [List.length_map]
    refine ⟨_, rfl, for_enumA hq2 (fun i σ' H' => ∃ u v x : Option V, σ' = [some (.ref wk), some (.ref a), some (.ref p), u, v, x] ∧ H' p = some (.lst (nts (0 :: ((idx ws.length S).take i).map (· + 1)))) ∧ Same H H')
      ⟨none, none, none, rfl, upd_same, e2⟩ ?_ ?_ ?_⟩
    · rintro i σ' H' _ ⟨u, v, x, rfl, gp, e⟩ o ho
      rcases hq with hq | hq
      · rw [e2 _ _ hq] at ho
        rw [← ho]; exact e _ _ hq
      · rw [e2 _ _ hq] at ho
        rw [← ho]; exact e _ _ hq
    · rintro i y σ' H' H'' hi ⟨u, v, x, rfl, gp, e⟩ ⟨T', x1, x2, rfl, nT, rfl, hx1, hx2⟩
      cases (Option.some.inj hx1)
      have hx2 : ((pick ws S).map V.str)[i]? = some x2 := hx2
      rw [hl] at hi
      obtain ⟨j, hj⟩ : ∃ j, (idx ws.length S)[i]? = some j := ⟨_, List.getElem?_eq_getElem hi⟩
      have hjm := idx_mem.mp (List.mem_of_getElem? hj)
      unfold pick at hx2
      rw [List.map_map, List.getElem?_map, hj] at hx2
      cases (Option.some.inj hx2)
      have hw : ws[j]? = some (ws.getD j no) := by
        rw [List.getD_eq_getElem?_getD, List.getElem?_eq_getElem hjm.1]
        rfl
      have hTp : T' ≠ p := (ne_of_none gp nT).symm
      have e3 : Same H (upd H' T' (.tup [.int (i : Nat), .str (ws.getD j no)])) := e.trans (Same.upd' nT)
      have kw3 := kw.same e3
      obtain ⟨dx, t, d, o1, o2, o3⟩ := kw3.ob
      refine ⟨T', _, rfl, SqT.of upd_same, rfl, _, _, rfl, _, _, rfl, rfl, ?_⟩
      refine ⟨_, rfl, wk, dx, _, rfl, o1, wk_no _ _ _ (by decide +kernel) (by decide +kernel) (by decide +kernel), _, rfl, wk, _, nm, ws, j, rfl, kw3, nd, hw, ?_⟩
      have gp2 : (upd H' T' (.tup [.int (i : Nat), .str (ws.getD j no)])) p = some (.lst (nts (0 :: ((idx ws.length S).take i).map (· + 1)))) := by rw [upd_ne hTp.symm]; exact gp
      -- the last cut is less
      obtain ⟨pre, z, hz, hlt⟩ : ∃ (pre : List V) (z : Nat), nts (0 :: ((idx ws.length S).take i).map (· + 1)) = pre ++ [.int z] ∧ z < j + 1 := by
        cases i with
        | zero => exact ⟨[], 0, rfl, by omega⟩
        | succ i =>
          obtain ⟨j', hj'⟩ : ∃ j', (idx ws.length S)[i]? = some j' := ⟨_, List.getElem?_eq_getElem (by omega)⟩
          have hlt : j' < j := by
            obtain ⟨a1, b1⟩ := List.getElem?_eq_some_iff.mp hj'
            obtain ⟨a2, b2⟩ := List.getElem?_eq_some_iff.mp hj
            have := List.pairwise_iff_getElem.mp (idx_sorted ws.length S) i (i + 1) a1 a2 (by omega)
            rw [b1, b2] at this
            exact this
          refine ⟨nts (0 :: ((idx ws.length S).take i).map (· + 1)), j' + 1, ?_, by omega⟩
          rw [List.take_succ, hj']
          simp [nts]
      have hnl : decide ((((j : Int) + 1)) ≤ (z : Int)) = false := decide_eq_false (by omega)
      refine ⟨_, rfl, _, rfl, _, rfl, _, _, _, _, rfl, rfl, SqL.of gp2, by rw [hz]; exact atI_last _ _, _, _, rfl, rfl, _, rfl, ?_⟩
      rw [hnl]
      refine ⟨_, rfl, .inl ⟨rfl, _, SqL.of gp2⟩, _, rfl, _, _, _, rfl, rfl, gp2, small1000 (by rw [nts_len]; simp; have := idx_len ws.length S; omega), ?_⟩
      refine ⟨_, _, _, rfl, ?_, Same.mut e3 npH⟩
      rw [upd_same, List.take_succ, hj]
      simp [nts]
    · rintro σ' H' ⟨u, v, x, rfl, gp, e⟩
      rw [hl, List.take_length] at gp
      exact ⟨_, rfl, k p H' npH e gp⟩
def spCounts : Sp := fun vs H Q _ => ∃ (c : Addr) (N : Nat) (S : Nat → Bool), vs = [.ref c, .int N] ∧ H c = some (.lst (nts (cutsL N S))) ∧ N ≤ 60 ∧ ∀ p H', H p = none → Same H H' → H' p = some (.lst (nts (countsL N S))) → Q (.ref p) H'
abbrev s_counts_at : Stmt := top 20
theorem sc_counts_at : FnScope ["cuts", "length", "counts", "cut"] ["cuts", "length"] (defScope s_counts_at) := ⟨rfl, rfl, rfl, by decide +kernel, rfl, by decide +kernel, by decide +kernel⟩
theorem ok_counts (F : Fun K "counts_at" "counts_at" s_counts_at f fd) (T : Blt mg) : FnOk P w K mg base CX0 1 f fd ["cuts", "length"] spCounts := by
  refine F.ok sc_counts_at (fun vs H Q E h => ?_) (fun cdv A outer s H vs Q E hr h => ?_)
  · obtain ⟨c, N, S, rfl, _⟩ := h
    rfl
  · obtain ⟨c, N, S, rfl, hc, hN, k⟩ := h
    refine ⟨_, (pss_cons (ps_set (i := 2) sc_counts_at.nd rfl (by first | exact Or.inl rfl | exact Or.inr rfl) (pe_lst (pa_cons pe_int pa_nil)))
        (pss_cons (ps_for PassesOwn.never rfl (pi_range2 rfl T.b_range (pa_cons pe_int (pa_cons (pe_op op_add (pv 1) pe_int) pa_nil))) (pg_name (i := 3) sc_counts_at.nd rfl (by first | exact Or.inl rfl | exact Or.inr rfl)) (pss_one (ps_expr (pe_bm PySem.F.plainAttrs_list PySem.F.slot_list_append PySem.F.type_list_append mt_append (pv 2) (pa_cons (pe_op op_add (pe_ix ix_list (pv 2) (pe_un un_neg pe_int) (fun _ _ => rfl)) (pe_callTy call_int1 (by rfl) T.b_int (by decide +kernel) (pa_cons (pe_cmpR op_in_seq (pv 3) (pv 0) (by rfl)) pa_nil))) pa_nil)))))
        (pss_one (ps_ret (pv 2))))), ?_⟩
    refine ⟨by show 1 ≤ sizeLine; decide, fun p np => ?_⟩
    have hpc : p ≠ c := (ne_of_none hc np).symm
    refine ⟨_, rfl, _, _, rfl, rfl, _, _, rfl, ⟨by decide, by decide, by omega, by omega⟩, for_range (lo := 1) (n := ((N : Int) + 1 - 1).toNat) (fun i σ' H' => ∃ u : Option V, σ' = [some (.ref c), some (.int N), some (.ref p), u] ∧ H' p = some (.lst (nts ((List.range (i + 1)).map (cnt S)))) ∧ Same H H')
      ⟨none, rfl, upd_same, Same.upd' np⟩ ?_ ?_⟩
    · rintro i σ' H' hi ⟨u, rfl, gp, e⟩
      have hi : i < N := by omega
      have hpre : nts ((List.range (i + 1)).map (cnt S)) = nts ((List.range i).map (cnt S)) ++ [.int (cnt S i : Nat)] := by
        rw [List.range_succ]
        simp [nts]
      have e1 : (1 : Int) + (i : Int) = ((i + 1 : Nat) : Int) := by omega
      refine ⟨_, rfl, .inl ⟨rfl, _, SqL.of gp⟩, ?_⟩
      refine ⟨_, rfl, _, rfl, _, _, _, _, rfl, rfl, SqL.of gp, by rw [hpre]; exact atI_last _ _, _, rfl, _, rfl, c, _, rfl, .inl (SqL.of (e _ _ hc)), rfl, nts_flat _, .inr ⟨_, rfl, _, _, rfl, rfl, ?_⟩⟩
      refine ⟨_, _, _, rfl, rfl, gp, small1000 (by rw [nts_len]; simp; omega), ?_⟩
      refine ⟨_, rfl, ?_, Same.mut e np⟩
      have e2 : inV (.int ((1 : Int) + (i : Int))) (nts (cutsL N S)) = S i := by
        rw [e1, nts_in]
        by_cases h : S i = true
        · rw [h]; exact decide_eq_true (cuts_mem.mpr ⟨hi, h⟩)
        · rw [decide_eq_false (fun z => h (cuts_mem.mp z).2)]
          simpa using h
      rw [upd_same]
      show some (HO.lst (nts ((List.range (i + 1)).map (cnt S)) ++ [V.int ((cnt S i : Nat) + if inV (.int ((1 : Int) + (i : Int))) (nts (cutsL N S)) = true then 1 else 0)])) = some (HO.lst (nts ((List.range (i + 1 + 1)).map (cnt S))))
      rw [e2, List.range_succ (n := i + 1), List.map_append, List.map_singleton, cnt_succ]
      by_cases h : S i = true <;> simp [nts, h]
    · rintro σ' H' ⟨u, rfl, gp, e⟩
      have hN2 : ((N : Int) + 1 - 1).toNat = N := by omega
      rw [hN2] at gp
      exact ⟨_, rfl, k p H' np e gp⟩
/-! ### an edition as it stands in the heap -/
def edF (wk t u v : Addr) : List (Str × V) := [("work", .ref wk), ("words", .ref t), ("cuts", .ref u), ("counts", .ref v)]
theorem e_1 : (("words" : Str) == "work") = false := by decide +kernel
theorem e_2 : (("cuts" : Str) == "work") = false := by decide +kernel
theorem e_3 : (("cuts" : Str) == "words") = false := by decide +kernel
theorem e_4 : (("counts" : Str) == "work") = false := by decide +kernel
theorem e_5 : (("counts" : Str) == "words") = false := by decide +kernel
theorem e_6 : (("counts" : Str) == "cuts") = false := by decide +kernel
theorem ed_work (wk t u v : Addr) : (edF wk t u v).lookup ("work" : Str) = some (.ref wk) := by simp [edF, List.lookup]
theorem ed_words (wk t u v : Addr) : (edF wk t u v).lookup ("words" : Str) = some (.ref t) := by simp [edF, List.lookup, e_1]
theorem ed_cuts (wk t u v : Addr) : (edF wk t u v).lookup ("cuts" : Str) = some (.ref u) := by simp [edF, List.lookup, e_2, e_3]
theorem ed_counts (wk t u v : Addr) : (edF wk t u v).lookup ("counts" : Str) = some (.ref v) := by simp [edF, List.lookup, e_4, e_5, e_6]
theorem ed_no (wk t u v : Addr) {m : Str} (h1 : (m == "work") = false) (h2 : (m == "words") = false) (h3 : (m == "cuts") = false) (h4 : (m == "counts") = false) : (edF wk t u v).lookup m = none := by simp [edF, List.lookup, h1, h2, h3, h4]
def p1 (wk : Addr) : List (Str × V) := [("work", .ref wk)]
def p2 (wk t : Addr) : List (Str × V) := [("work", .ref wk), ("words", .ref t)]
def p3 (wk t u : Addr) : List (Str × V) := [("work", .ref wk), ("words", .ref t), ("cuts", .ref u)]
theorem ne_b {a b : Str} (h : (a == b) = false) : ¬ (b = a) := fun z => by rw [z] at h; simp at h
theorem put1 (wk : Addr) : putF "work" (.ref wk) [] = p1 wk := rfl
theorem put2 (wk t : Addr) : putF "words" (.ref t) (p1 wk) = p2 wk t := by simp [putF, p1, p2, ne_b e_1]
theorem put3 (wk t u : Addr) : putF "cuts" (.ref u) (p2 wk t) = p3 wk t u := by simp [putF, p2, p3, ne_b e_2, ne_b e_3]
theorem put4 (wk t u v : Addr) : putF "counts" (.ref v) (p3 wk t u) = edF wk t u v := by simp [putF, p3, edF, ne_b e_4, ne_b e_5, ne_b e_6]
/-- the edition of the passages S of the work at wk, at e -/
structure EdAt (CW CE : Addr) (H : Hp) (e wk : Addr) (nm : Str) (ws : List Str) (S : Nat → Bool) : Prop where
  ob : ∃ dx t u v, H e = some (.ins CE dx (edF wk t u v)) ∧ H t = some (.tup ((pick ws S).map V.str)) ∧ H u = some (.tup (nts (cutsL ws.length S))) ∧ H v = some (.tup (nts (countsL ws.length S)))
  wk : WkAt CW H wk nm ws
theorem EdAt.same {CW CE : Addr} {H H' : Hp} {a wk : Addr} {nm : Str} {ws : List Str} {S : Nat → Bool} (k : EdAt CW CE H a wk nm ws S) (e : Same H H') : EdAt CW CE H' a wk nm ws S := by
  obtain ⟨⟨dx, t, u, v, h1, h2, h3, h4⟩, h5⟩ := k
  exact ⟨⟨dx, t, u, v, e _ _ h1, e _ _ h2, e _ _ h3, e _ _ h4⟩, h5.same e⟩
theorem EdAt.kp {CW CE st : Addr} {H H' : Hp} {a wk : Addr} {nm : Str} {ws : List Str} {S : Nat → Bool} {xs : List V} (k : EdAt CW CE H a wk nm ws S) (e : Kp st H H') (hs : H st = some (.lst xs)) : EdAt CW CE H' a wk nm ws S := by
  obtain ⟨⟨dx, t, u, v, h1, h2, h3, h4⟩, h5⟩ := k
  exact ⟨⟨dx, t, u, v, e _ _ (ne_of h1 hs (by intro z; cases z)) h1, e _ _ (ne_of h2 hs (by intro z; cases z)) h2, e _ _ (ne_of h3 hs (by intro z; cases z)) h3, e _ _ (ne_of h4 hs (by intro z; cases z)) h4⟩, h5.kp e hs⟩
structure EdTxt (K : PySem.W.Frag) (C : Addr) : Prop where
  cl : Cls K C
  nK : NoAttr K C "work"
  nW : NoAttr K C "words"
  nC : NoAttr K C "cuts"
  nN : NoAttr K C "counts"
/-- a work is right: its words -/
structure WOk (ws : List Str) : Prop where
  ok : Wds ws ws.length
  l0 : 0 < ws.length
  l1 : ws.length ≤ 60
def spEdInit (CW CE : Addr) : Sp := fun vs H Q _ => ∃ (p dx wk a : Addr) (nm : Str) (ws : List Str) (S : Nat → Bool), vs = [.ref p, .ref wk, .ref a] ∧ H p = some (.ins CE dx []) ∧ WkAt CW H wk nm ws ∧ WOk ws ∧ SeqAt H a ((pick ws S).map V.str) ∧ wk ≠ p ∧
  ∀ H', EdAt CW CE H' p wk nm ws S → Kp p H H' → Q .non H'
abbrev s_Edition_init : Stmt := inClass (top 18) 0
theorem sc_Edition_init : FnScope ["self", "work", "passages", "cuts"] ["self", "work", "passages"] (defScope s_Edition_init) := ⟨rfl, rfl, rfl, by decide +kernel, rfl, by decide +kernel, by decide +kernel⟩
theorem WkAt.kpi {C C' p dx : Addr} {H H' : Hp} {a : Addr} {nm : Str} {ws : List Str} {fs : List (Str × V)} (k : WkAt C H a nm ws) (e : Kp p H H') (hs : H p = some (.ins C' dx fs)) (ha : a ≠ p) : WkAt C H' a nm ws := by
  obtain ⟨⟨dx, t, d, h1, h2, h3⟩⟩ := k
  exact ⟨⟨dx, t, d, e _ _ ha h1, e _ _ (ne_of h2 hs (by intro z; cases z)) h2, e _ _ (ne_of h3 hs (by intro z; cases z)) h3⟩⟩
theorem ok_ed_init {CW CE fC fN fL : Addr} {fdC fdN fdL : FuncData} (F : Fun K "__init__" "Edition.__init__" s_Edition_init f fd) (T : Blt mg) (W : EdTxt K CE)
    (D_cuts_behind : DefOk P w K mg base 3 "cuts_behind" fC fdC ["work", "passages"] (spCuts CW)) (D_counts_at : DefOk P w K mg base 1 "counts_at" fN fdN ["cuts", "length"] spCounts)
    (M_Work_len : MetOk P w K mg base 1 CW "__len__" fL fdL ["self"] (spWkLen CW)) : FnOk P w K mg base CX0 4 f fd ["self", "work", "passages"] (spEdInit CW CE) := by
  refine F.ok sc_Edition_init (fun vs H Q E h => ?_) (fun cdv A outer s H vs Q E hr h => ?_)
  · obtain ⟨p, dx, wk, a, nm, ws, S, rfl, _⟩ := h
    rfl
  · obtain ⟨p, dx, wk, a, nm, ws, S, rfl, hp, kw, hw, hq, hwp, k⟩ := h
    refine ⟨_, (pss_cons (ps_set (i := 3) sc_Edition_init.nd rfl (by first | exact Or.inl rfl | exact Or.inr rfl) (pe_d D_cuts_behind (hr.mono (by decide)) (pa_cons (pv 1) (pa_cons (pv 2) pa_nil))))
        (pss_cons (ps_fld (pv 0) (pv 1) rfl)
        (pss_cons (ps_fld (pv 0) (pe_callTy call_tuple_of (by rfl) T.b_tuple (by decide +kernel) (pa_cons (pv 2) pa_nil)) rfl)
        (pss_cons (ps_fld (pv 0) (pe_callTy call_tuple_of (by rfl) T.b_tuple (by decide +kernel) (pa_cons (pv 3) pa_nil)) rfl)
        (pss_one (ps_fld (pv 0) (pe_callTy call_tuple_of (by rfl) T.b_tuple (by decide +kernel) (pa_cons (pe_d D_counts_at (hr.mono (by decide)) (pa_cons (pv 3) (pa_cons (pe_callB (M_Work_len.len (hr.mono (by decide))) (by rfl) T.b_len PySem.boot_len (pa_cons (pv 1) pa_nil)) pa_nil))) pa_nil)) rfl)))))), ?_⟩
    have hap : a ≠ p := by
      rcases hq with hq | hq
      · exact ne_of hq hp (by intro z; cases z)
      · exact ne_of hq hp (by intro z; cases z)
    refine ⟨_, rfl, _, rfl, wk, a, nm, ws, S, rfl, kw, hw.ok.nd, hw.l1, hq, fun c H1 nc e1 hc => ?_⟩
    have hcp : c ≠ p := (ne_of_none hp nc).symm
    have hp1 := e1 _ _ hp
    refine ⟨_, rfl, _, rfl, p, CE, dx, _, rfl, hp1, W.cl, W.nK, by decide, ?_⟩
    rw [put1]
    generalize hH2 : upd H1 p (.ins CE dx (p1 wk)) = H2
    have kp2 : Kp p H H2 := by rw [← hH2]; exact (Kp.of e1).trans (Kp.upd _ _ _)
    have hp2 : H2 p = some (.ins CE dx (p1 wk)) := by rw [← hH2]; exact upd_same
    have hc2 : H2 c = some (.lst (nts (cutsL ws.length S))) := by rw [← hH2, upd_ne hcp]; exact hc
    clear hH2
    -- behind the words, at t
    have fin : ∀ (t : Addr) (H3 : Hp), H3 p = some (.ins CE dx (p1 wk)) → H3 t = some (.tup ((pick ws S).map V.str)) → H3 c = some (.lst (nts (cutsL ws.length S))) → Kp p H H3 → t ≠ p →
        tSeq (sFld K (tVar 0) (tCB (fun xs H Q => ∃ p ys, xs = [.ref p] ∧ ((SqL K H p ys ∧ ∀ l, H l = none → Q (.ref l) (upd H l (.tup ys))) ∨ (SqT K H p ys ∧ Q (.ref p) H))) (tCons (tVar 3) tNil)) "cuts")
          (sFld K (tVar 0) (tCB (fun xs H Q => ∃ p ys, xs = [.ref p] ∧ ((SqL K H p ys ∧ ∀ l, H l = none → Q (.ref l) (upd H l (.tup ys))) ∨ (SqT K H p ys ∧ Q (.ref p) H))) (tCons (tCall spCounts [] E0 (tCons (tVar 3) (tCons (tCB (rLenOwn CW (spWkLen CW) E0) (tCons (tVar 1) tNil)) tNil))) tNil)) "counts")
          { nx := fun _ H' => Q .non H', rt := Q } [some (.ref p), some (.ref wk), some (.ref a), some (.ref c)] (upd H3 p (.ins CE dx (p2 wk t))) := by
      intro t H3 g1 g2 g3 g4 htp
      have g5 : (upd H3 p (.ins CE dx (p2 wk t))) c = some (.lst (nts (cutsL ws.length S))) := by rw [upd_ne hcp]; exact g3
      refine ⟨_, rfl, c, _, rfl, .inl ⟨SqL.of g5, fun u nu => ?_⟩⟩
      have hup : u ≠ p := (ne_of_none upd_same nu).symm
      have huc : u ≠ c := (ne_of_none g5 nu).symm
      have hut : u ≠ t := (ne_of_none (by rw [upd_ne htp]; exact g2) nu).symm
      refine ⟨_, rfl, p, CE, dx, _, rfl, (by rw [upd_ne hup.symm, upd_same]), W.cl, W.nC, (by show 2 < 1000; decide), ?_⟩
      rw [put3]
      generalize hH4 : upd (upd (upd H3 p _) u _) p _ = H4
      have kp4 : Kp p H H4 := by rw [← hH4]; exact ((g4.trans (Kp.upd _ _ _)).trans (Kp.of (Same.upd' nu))).trans (Kp.upd _ _ _)
      have q1 : H4 p = some (.ins CE dx (p3 wk t u)) := by rw [← hH4]; exact upd_same
      have q2 : H4 t = some (.tup ((pick ws S).map V.str)) := by rw [← hH4, upd_ne htp, upd_ne hut.symm, upd_ne htp]; exact g2
      have q3 : H4 u = some (.tup (nts (cutsL ws.length S))) := by rw [← hH4, upd_ne hup, upd_same]
      have q4 : H4 c = some (.lst (nts (cutsL ws.length S))) := by rw [← hH4, upd_ne hcp, upd_ne huc.symm, upd_ne hcp]; exact g3
      clear hH4
      have kw4 : WkAt CW H4 wk nm ws := kw.kpi kp4 hp hwp
      obtain ⟨dxw, tw, dw, o1, o2, o3⟩ := kw4.ob
      refine ⟨_, rfl, _, rfl, wk, dxw, _, rfl, o1, wk, nm, ws, rfl, kw4, ws.length, rfl, by have := hw.l1; omega, c, ws.length, S, rfl, q4, hw.l1, fun cs H5 ncs e5 hcs => ?_⟩
      refine ⟨cs, _, rfl, .inl ⟨SqL.of hcs, fun v nv => ?_⟩⟩
      have r1 := e5 _ _ q1
      have hvp : v ≠ p := (ne_of_none r1 nv).symm
      have hvt : v ≠ t := (ne_of_none (e5 _ _ q2) nv).symm
      have hvu : v ≠ u := (ne_of_none (e5 _ _ q3) nv).symm
      refine ⟨_, rfl, p, CE, dx, _, rfl, (by rw [upd_ne hvp.symm]; exact r1), W.cl, W.nN, (by show 3 < 1000; decide), ?_⟩
      rw [put4]
      have kp6 : Kp p H (upd (upd H5 v (.tup (nts (countsL ws.length S)))) p (.ins CE dx (edF wk t u v))) := ((kp4.trans (Kp.of e5)).trans (Kp.of (Same.upd' nv))).trans (Kp.upd _ _ _)
      refine k _ ⟨⟨dx, t, u, v, upd_same, ?_, ?_, ?_⟩, kw.kpi kp6 hp hwp⟩ kp6
      · rw [upd_ne htp, upd_ne hvt.symm]; exact e5 _ _ q2
      · rw [upd_ne hup, upd_ne hvu.symm]; exact e5 _ _ q3
      · rw [upd_ne hvp, upd_same]
    rcases hq with hq | hq
    · refine ⟨_, rfl, a, _, rfl, .inl ⟨SqL.of (kp2 _ _ hap hq), fun t nt => ?_⟩⟩
      have htp : t ≠ p := (ne_of_none hp2 nt).symm
      have htc : t ≠ c := (ne_of_none hc2 nt).symm
      refine ⟨_, rfl, p, CE, dx, _, rfl, (by rw [upd_ne htp.symm]; exact hp2), W.cl, W.nW, (by show 1 < 1000; decide), ?_⟩
      rw [put2]
      exact fin t _ (by rw [upd_ne htp.symm]; exact hp2) upd_same (by rw [upd_ne htc.symm]; exact hc2) (kp2.trans (Kp.of (Same.upd' nt))) htp
    · refine ⟨_, rfl, a, _, rfl, .inr ⟨SqT.of (kp2 _ _ hap hq), ?_⟩⟩
      refine ⟨_, rfl, p, CE, dx, _, rfl, hp2, W.cl, W.nW, (by show 1 < 1000; decide), ?_⟩
      rw [put2]
      exact fin a _ hp2 (kp2 _ _ hap hq) hc2 kp2 hap
end
end Lm

namespace Lm
open PySem L2
theorem nth_at {ws : List Str} {j : Nat} (h : j < ws.length) : ws[j]? = some (ws.getD j no) := by
  rw [List.getD_eq_getElem?_getD, List.getElem?_eq_getElem h]
  rfl
theorem pick_in {ws : List Str} {T : Nat → Bool} {j : Nat} (nd : ws.Nodup) (h : j < ws.length) : decide (ws.getD j no ∈ pick ws T) = T j := by
  by_cases hT : T j = true
  · rw [hT]
    exact decide_eq_true (List.mem_map.mpr ⟨j, idx_mem.mpr ⟨h, hT⟩, rfl⟩)
  · have : T j = false := by simpa using hT
    rw [this]
    refine decide_eq_false fun z => hT ?_
    obtain ⟨i, hi, e⟩ := List.mem_map.mp z
    have hi := idx_mem.mp hi
    have e1 := nth_at hi.1
    rw [show ws.getD i no = ws.getD j no from e] at e1
    have := nd_ix nd e1 (nth_at h)
    subst this
    exact hi.2
theorem pick_len (ws : List Str) (S : Nat → Bool) : (pick ws S).length = cnt S ws.length := by unfold pick cnt; rw [List.length_map]
theorem pick_congr {ws : List Str} {S T : Nat → Bool} (h : ∀ i < ws.length, S i = T i) : pick ws S = pick ws T := by
  unfold pick idx
  rw [List.filter_congr fun i hi => h i (List.mem_range.mp hi)]
theorem pick_at {ws : List Str} {S : Nat → Bool} {i j : Nat} (h : (idx ws.length S)[i]? = some j) : ((pick ws S).map V.str)[i]? = some (.str (ws.getD j no)) := by
  unfold pick
  rw [List.map_map, List.getElem?_map, h]
  rfl
theorem filter_and (N : Nat) (S T : Nat → Bool) : (idx N S).filter T = idx N fun i => S i && T i := by
  unfold idx
  rw [List.filter_filter]
  exact List.filter_congr fun i _ => Bool.and_comm _ _
section
variable {CW CE : Addr}
theorem mkEd {H : Hp} {wk a : Addr} {nm : Str} {ws : List Str} {S : Nat → Bool} {R : Addr → Hp → Prop} {E : XK} (kw : WkAt CW H wk nm ws) (hw : WOk ws) (hq : SeqAt H a ((pick ws S).map V.str)) (k : ∀ x H', H x = none → Same H H' → EdAt CW CE H' x wk nm ws S → R x H') :
    ∀ x dx, H x = none → H dx = none → dx ≠ x → spEdInit CW CE (.ref x :: ([.ref wk, .ref a] ++ [])) (upd (upd H dx (.own x)) x (.ins CE dx [])) (fun v H2 => v = .non ∧ R x H2) E := by
  intro x dx nx ndx nex
  have s0 : Same H (upd (upd H dx (.own x)) x (.ins CE dx [])) := fun b o e => by
    rw [upd_ne (ne_of_none e nx), upd_ne (ne_of_none e ndx)]
    exact e
  obtain ⟨dw, tw, ew, o1, _, _⟩ := id kw.ob
  refine ⟨x, dx, wk, a, nm, ws, S, rfl, upd_same, kw.same s0, hw, hq.elim (fun h => .inl (s0 _ _ h)) fun h => .inr (s0 _ _ h), ne_of_none o1 nx, fun H' he hk => ⟨rfl, k x H' nx (fun b o e => hk b o (ne_of_none e nx) (s0 b o e)) he⟩⟩
theorem mkWk {H : Hp} {a : Addr} {nm : Str} {ws : List Str} {R : Addr → Hp → Prop} {E : XK} (hn : isW nm = true) (hw : WOk ws) (hq : SeqAt H a (ws.map V.str)) (k : ∀ x H', H x = none → Same H H' → WkAt CW H' x nm ws → R x H') :
    ∀ x dx, H x = none → H dx = none → dx ≠ x → spWkInit CW (.ref x :: ([.str nm, .ref a] ++ [])) (upd (upd H dx (.own x)) x (.ins CW dx [])) (fun v H2 => v = .non ∧ R x H2) E := by
  intro x dx nx ndx nex
  have s0 : Same H (upd (upd H dx (.own x)) x (.ins CW dx [])) := fun b o e => by
    rw [upd_ne (ne_of_none e nx), upd_ne (ne_of_none e ndx)]
    exact e
  refine ⟨x, dx, a, nm, ws, rfl, upd_same, hq.elim (fun h => .inl (s0 _ _ h)) fun h => .inr (s0 _ _ h), hn, hw.ok, hw.l0, hw.l1, fun H' he hk => ⟨rfl, k x H' nx (fun b o e => hk b o (ne_of_none e nx) (s0 b o e)) he⟩⟩
end
section
variable {P : Program} {w : World} {K : PySem.W.Frag} {mg : Str → Option Value} {base : Heap} {f : Addr} {fd : FuncData}
theorem pick_all (ws : List Str) : pick ws (fun _ => true) = ws := by
  unfold pick idx
  rw [List.filter_eq_self.mpr fun _ _ => rfl]
  refine List.ext_getElem? fun i => ?_
  rw [List.getElem?_map]
  rcases Nat.lt_or_ge i ws.length with h | h
  · rw [List.getElem?_range h, nth_at h]
    rfl
  · rw [List.getElem?_eq_none (by simpa using h), List.getElem?_eq_none h]
    rfl
def spWhole (CW CE : Addr) : Sp := fun vs H Q _ => ∃ (wk : Addr) (nm : Str) (ws : List Str), vs = [.ref wk] ∧ WkAt CW H wk nm ws ∧ WOk ws ∧ ∀ p H', H p = none → Same H H' → EdAt CW CE H' p wk nm ws (fun _ => true) → Q (.ref p) H'
def spEdLen (CW CE : Addr) : Sp := fun vs H Q _ => ∃ (a wk : Addr) (nm : Str) (ws : List Str) (S : Nat → Bool), vs = [.ref a] ∧ EdAt CW CE H a wk nm ws S ∧ Q (.int (cnt S ws.length : Nat)) H
abbrev s_Edition_len : Stmt := inClass (top 18) 6
theorem sc_Edition_len : FnScope ["self"] ["self"] (defScope s_Edition_len) := ⟨rfl, rfl, rfl, by decide +kernel, rfl, by decide +kernel, by decide +kernel⟩
theorem ok_ed_len {CW CE : Addr} (F : Fun K "__len__" "Edition.__len__" s_Edition_len f fd) (T : Blt mg) (W : EdTxt K CE) : FnOk P w K mg base CX0 1 f fd ["self"] (spEdLen CW CE) := by
  refine F.ok sc_Edition_len (fun vs H Q E h => ?_) (fun cdv A outer s H vs Q E hr h => ?_)
  · obtain ⟨a, wk, nm, ws, S, rfl, _⟩ := h
    rfl
  · obtain ⟨a, wk, nm, ws, S, rfl, ⟨⟨dx, t, u, v, h1, h2, h3, h4⟩, _⟩, k⟩ := h
    refine ⟨_, (pss_one (ps_ret (pe_callB call_len_seq (by rfl) T.b_len PySem.boot_len (pa_cons (pe_fld (pv 0) rfl) pa_nil)))), ?_⟩
    refine ⟨_, rfl, a, CE, dx, _, _, rfl, h1, W.cl, W.nW, ed_words _ _ _ _, t, _, rfl, .inr (SqT.of h2), ?_⟩
    rw [List.length_map, pick_len]
    exact k
def spEdIn (CW CE : Addr) : Sp := fun vs H Q _ => ∃ (a wk : Addr) (x nm : Str) (ws : List Str) (S : Nat → Bool), vs = [.ref a, .str x] ∧ EdAt CW CE H a wk nm ws S ∧ Q (.bl (decide (x ∈ pick ws S))) H
abbrev s_Edition_contains : Stmt := inClass (top 18) 7
theorem sc_Edition_contains : FnScope ["self", "x"] ["self", "x"] (defScope s_Edition_contains) := ⟨rfl, rfl, rfl, by decide +kernel, rfl, by decide +kernel, by decide +kernel⟩
theorem ok_ed_in {CW CE : Addr} (F : Fun K "__contains__" "Edition.__contains__" s_Edition_contains f fd) (T : Blt mg) (W : EdTxt K CE) : FnOk P w K mg base CX0 1 f fd ["self", "x"] (spEdIn CW CE) := by
  refine F.ok sc_Edition_contains (fun vs H Q E h => ?_) (fun cdv A outer s H vs Q E hr h => ?_)
  · obtain ⟨a, wk, x, nm, ws, S, rfl, _⟩ := h
    rfl
  · obtain ⟨a, wk, x, nm, ws, S, rfl, ⟨⟨dx, t, u, v, h1, h2, h3, h4⟩, _⟩, k⟩ := h
    refine ⟨_, (pss_one (ps_ret (pe_and (pe_callB call_isi (by rfl) T.b_isinstance (by decide +kernel) (pa_cons (pv 1) (pa_cons (pe_bltn (v := .ty "str") (u := .type "str") (by rfl) T.b_str (by decide +kernel) rfl) pa_nil))) (pe_one (pe_cmpR op_in_seq (pv 1) (pe_fld (pv 0) rfl) (by rfl)))))), ?_⟩
    refine ⟨_, rfl, _, _, _, _, true, rfl, .ty _, .base (.str x), kit_ty (by decide +kernel), true, rfl, ?_⟩
    refine ⟨_, rfl, _, rfl, a, CE, dx, _, _, rfl, h1, W.cl, W.nW, ed_words _ _ _ _, t, _, rfl, .inr (SqT.of h2), rfl, strs_flat _, ?_⟩
    have e := strs_in (pick ws S) x
    rw [← e] at k
    exact k
def spReqCount (CW CE : Addr) : Sp := fun vs H Q _ => ∃ (a wk : Addr) (n : Nat) (nm : Str) (ws : List Str) (S : Nat → Bool), vs = [.int n, .ref a] ∧ EdAt CW CE H a wk nm ws S ∧ ws.length ≤ 60 ∧ n ≤ cnt S ws.length ∧ Q .non H
abbrev s_require_count : Stmt := top 21
theorem sc_require_count : FnScope ["count", "edition"] ["count", "edition"] (defScope s_require_count) := ⟨rfl, rfl, rfl, by decide +kernel, rfl, by decide +kernel, by decide +kernel⟩
theorem cnt_le (S : Nat → Bool) (N : Nat) : cnt S N ≤ N := idx_len N S
theorem ok_req_count {CW CE fU fL : Addr} {fdU fdL : FuncData} (F : Fun K "require_count" "require_count" s_require_count f fd) (T : Blt mg) (D_is_up_to : DefOk P w K mg base 2 "is_up_to" fU fdU ["x", "most"] spUpTo) (M_Edition_len : MetOk P w K mg base 1 CE "__len__" fL fdL ["self"] (spEdLen CW CE)) :
    FnOk P w K mg base CX0 3 f fd ["count", "edition"] (spReqCount CW CE) := by
  refine F.ok sc_require_count (fun vs H Q E h => ?_) (fun cdv A outer s H vs Q E hr h => ?_)
  · obtain ⟨a, wk, n, nm, ws, S, rfl, _⟩ := h
    rfl
  · obtain ⟨a, wk, n, nm, ws, S, rfl, he, l1, hn, k⟩ := h
    obtain ⟨dx, t, u, v, h1, h2, h3, h4⟩ := id he.ob
    have hc := cnt_le S ws.length
    refine ⟨_, (pss_one (ps_if (pt_not (pt_val (pe_d D_is_up_to (hr.mono (by decide)) (pa_cons (pv 0) (pa_cons (pe_callB (M_Edition_len.len (hr.mono (by decide))) (by rfl) T.b_len PySem.boot_len (pa_cons (pv 1) pa_nil)) pa_nil))))) (pss_one ps_never) pss_nil)), ?_⟩
    refine ⟨_, rfl, _, rfl, a, dx, _, rfl, h1, a, wk, nm, ws, S, rfl, he, cnt S ws.length, rfl, by omega, _, _, rfl, _, rfl, ?_⟩
    rw [decide_eq_true (show (0 : Int) ≤ (n : Int) ∧ (n : Int) ≤ (cnt S ws.length : Nat) from ⟨by omega, by omega⟩)]
    exact k
def spReqCut (CW : Addr) : Sp := fun vs H Q _ => ∃ (wk : Addr) (n : Nat) (nm : Str) (ws : List Str), vs = [.int n, .ref wk] ∧ WkAt CW H wk nm ws ∧ ws.length ≤ 60 ∧ n ≤ ws.length ∧ Q .non H
abbrev s_require_cut : Stmt := top 22
theorem sc_require_cut : FnScope ["cut", "work"] ["cut", "work"] (defScope s_require_cut) := ⟨rfl, rfl, rfl, by decide +kernel, rfl, by decide +kernel, by decide +kernel⟩
theorem ok_req_cut {CW fU fL : Addr} {fdU fdL : FuncData} (F : Fun K "require_cut" "require_cut" s_require_cut f fd) (T : Blt mg) (D_is_up_to : DefOk P w K mg base 2 "is_up_to" fU fdU ["x", "most"] spUpTo) (M_Work_len : MetOk P w K mg base 1 CW "__len__" fL fdL ["self"] (spWkLen CW)) :
    FnOk P w K mg base CX0 3 f fd ["cut", "work"] (spReqCut CW) := by
  refine F.ok sc_require_cut (fun vs H Q E h => ?_) (fun cdv A outer s H vs Q E hr h => ?_)
  · obtain ⟨wk, n, nm, ws, rfl, _⟩ := h
    rfl
  · obtain ⟨wk, n, nm, ws, rfl, kw, l1, hn, k⟩ := h
    obtain ⟨dx, t, d, h1, h2, h3⟩ := id kw.ob
    refine ⟨_, (pss_one (ps_if (pt_not (pt_val (pe_d D_is_up_to (hr.mono (by decide)) (pa_cons (pv 0) (pa_cons (pe_callB (M_Work_len.len (hr.mono (by decide))) (by rfl) T.b_len PySem.boot_len (pa_cons (pv 1) pa_nil)) pa_nil))))) (pss_one ps_never) pss_nil)), ?_⟩
    refine ⟨_, rfl, _, rfl, wk, dx, _, rfl, h1, wk, nm, ws, rfl, kw, ws.length, rfl, by omega, _, _, rfl, _, rfl, ?_⟩
    rw [decide_eq_true (show (0 : Int) ≤ (n : Int) ∧ (n : Int) ≤ (ws.length : Nat) from ⟨by omega, by omega⟩)]
    exact k
def spCutB (CW CE : Addr) : Sp := fun vs H Q _ => ∃ (a wk : Addr) (n x : Nat) (nm : Str) (ws : List Str) (S : Nat → Bool), vs = [.ref a, .int n] ∧ EdAt CW CE H a wk nm ws S ∧ ws.length ≤ 60 ∧ (cutsL ws.length S)[n]? = some x ∧ Q (.int x) H
abbrev s_Edition_cut_behind : Stmt := inClass (top 18) 2
theorem sc_Edition_cut_behind : FnScope ["self", "count"] ["self", "count"] (defScope s_Edition_cut_behind) := ⟨rfl, rfl, rfl, by decide +kernel, rfl, by decide +kernel, by decide +kernel⟩
theorem ok_cutb {CW CE fR : Addr} {fdR : FuncData} (F : Fun K "cut_behind" "Edition.cut_behind" s_Edition_cut_behind f fd) (W : EdTxt K CE) (D_require_count : DefOk P w K mg base 3 "require_count" fR fdR ["count", "edition"] (spReqCount CW CE)) :
    FnOk P w K mg base CX0 4 f fd ["self", "count"] (spCutB CW CE) := by
  refine F.ok sc_Edition_cut_behind (fun vs H Q E h => ?_) (fun cdv A outer s H vs Q E hr h => ?_)
  · obtain ⟨a, wk, n, x, nm, ws, S, rfl, _⟩ := h
    rfl
  · obtain ⟨a, wk, n, x, nm, ws, S, rfl, he, l1, hx, k⟩ := h
    obtain ⟨dx, t, u, v, h1, h2, h3, h4⟩ := id he.ob
    have hn : n ≤ cnt S ws.length := by
      have := (List.getElem?_eq_some_iff.mp hx).1
      rw [cutsL_len] at this
      omega
    refine ⟨_, (pss_cons (ps_expr (pe_d D_require_count (hr.mono (by decide)) (pa_cons (pv 1) (pa_cons (pv 0) pa_nil))))
        (pss_one (ps_ret (pe_ix ix_tup (pe_fld (pv 0) rfl) (pv 1) (fun _ _ => rfl))))), ?_⟩
    refine ⟨_, rfl, _, rfl, a, wk, n, nm, ws, S, rfl, he, l1, hn, ?_⟩
    exact ⟨_, rfl, a, CE, dx, _, _, rfl, h1, W.cl, W.nC, ed_cuts _ _ _ _, _, rfl, u, _, _, _, rfl, rfl, SqT.of h3, atI_nat (nts_at hx), k⟩
def spCountAt (CW CE : Addr) : Sp := fun vs H Q _ => ∃ (a wk : Addr) (c : Nat) (nm : Str) (ws : List Str) (S : Nat → Bool), vs = [.ref a, .int c] ∧ EdAt CW CE H a wk nm ws S ∧ ws.length ≤ 60 ∧ c ≤ ws.length ∧ Q (.int (cnt S c : Nat)) H
abbrev s_Edition_count_at : Stmt := inClass (top 18) 3
theorem sc_Edition_count_at : FnScope ["self", "cut"] ["self", "cut"] (defScope s_Edition_count_at) := ⟨rfl, rfl, rfl, by decide +kernel, rfl, by decide +kernel, by decide +kernel⟩
theorem ok_count_at {CW CE fR : Addr} {fdR : FuncData} (F : Fun K "count_at" "Edition.count_at" s_Edition_count_at f fd) (W : EdTxt K CE) (D_require_cut : DefOk P w K mg base 3 "require_cut" fR fdR ["cut", "work"] (spReqCut CW)) :
    FnOk P w K mg base CX0 4 f fd ["self", "cut"] (spCountAt CW CE) := by
  refine F.ok sc_Edition_count_at (fun vs H Q E h => ?_) (fun cdv A outer s H vs Q E hr h => ?_)
  · obtain ⟨a, wk, c, nm, ws, S, rfl, _⟩ := h
    rfl
  · obtain ⟨a, wk, c, nm, ws, S, rfl, he, l1, hc, k⟩ := h
    obtain ⟨dx, t, u, v, h1, h2, h3, h4⟩ := id he.ob
    refine ⟨_, (pss_cons (ps_expr (pe_d D_require_cut (hr.mono (by decide)) (pa_cons (pv 1) (pa_cons (pe_fld (pv 0) rfl) pa_nil))))
        (pss_one (ps_ret (pe_ix ix_tup (pe_fld (pv 0) rfl) (pv 1) (fun _ _ => rfl))))), ?_⟩
    refine ⟨_, rfl, _, rfl, a, CE, dx, _, _, rfl, h1, W.cl, W.nK, ed_work _ _ _ _, wk, c, nm, ws, rfl, he.wk, l1, hc, ?_⟩
    exact ⟨_, rfl, a, CE, dx, _, _, rfl, h1, W.cl, W.nN, ed_counts _ _ _ _, _, rfl, v, _, _, _, rfl, rfl, SqT.of h4, atI_nat (nts_at (counts_at' S hc)), k⟩
def spKernel (CW CE : Addr) : Sp := fun vs H Q _ => ∃ (a wk : Addr) (c : Nat) (nm : Str) (ws : List Str) (S : Nat → Bool), vs = [.ref a, .int c] ∧ EdAt CW CE H a wk nm ws S ∧ ws.length ≤ 60 ∧ c ≤ ws.length ∧ Q (.int (ker S c : Nat)) H
abbrev s_Edition_kernel : Stmt := inClass (top 18) 4
theorem sc_Edition_kernel : FnScope ["self", "cut"] ["self", "cut"] (defScope s_Edition_kernel) := ⟨rfl, rfl, rfl, by decide +kernel, rfl, by decide +kernel, by decide +kernel⟩
theorem ok_kernel {CW CE fB fA : Addr} {fdB fdA : FuncData} (F : Fun K "kernel" "Edition.kernel" s_Edition_kernel f fd) (M_Edition_cut_behind : MetOk P w K mg base 4 CE "cut_behind" fB fdB ["self", "count"] (spCutB CW CE)) (M_Edition_count_at : MetOk P w K mg base 4 CE "count_at" fA fdA ["self", "cut"] (spCountAt CW CE)) :
    FnOk P w K mg base CX0 5 f fd ["self", "cut"] (spKernel CW CE) := by
  refine F.ok sc_Edition_kernel (fun vs H Q E h => ?_) (fun cdv A outer s H vs Q E hr h => ?_)
  · obtain ⟨a, wk, c, nm, ws, S, rfl, _⟩ := h
    rfl
  · obtain ⟨a, wk, c, nm, ws, S, rfl, he, l1, hc, k⟩ := h
    obtain ⟨dx, t, u, v, h1, h2, h3, h4⟩ := id he.ob
    refine ⟨_, (pss_one (ps_ret (pe_m M_Edition_cut_behind (hr.mono (by decide)) (pv 0) (pa_cons (pe_m M_Edition_count_at (hr.mono (by decide)) (pv 0) (pa_cons (pv 1) pa_nil)) pa_nil)))), ?_⟩
    refine ⟨_, rfl, a, dx, _, rfl, h1, ed_no _ _ _ _ (by decide +kernel) (by decide +kernel) (by decide +kernel) (by decide +kernel), _, rfl, a, dx, _, rfl, h1, ed_no _ _ _ _ (by decide +kernel) (by decide +kernel) (by decide +kernel) (by decide +kernel), _, rfl, a, wk, c, nm, ws, S, rfl, he, l1, hc, ?_⟩
    exact ⟨a, wk, _, _, nm, ws, S, rfl, he, l1, cuts_at S hc, k⟩
end
end Lm

namespace Lm
open PySem L2
theorem EdAt.congr {CW CE : Addr} {H : Hp} {a wk : Addr} {nm : Str} {ws : List Str} {S T : Nat → Bool} (k : EdAt CW CE H a wk nm ws S) (h : ∀ i < ws.length, S i = T i) : EdAt CW CE H a wk nm ws T := by
  obtain ⟨⟨dx, t, u, v, h1, h2, h3, h4⟩, h5⟩ := k
  have e : ∀ c ≤ ws.length, idx c S = idx c T := fun c hc => List.filter_congr fun i hi => h i (by have := List.mem_range.mp hi; omega)
  have e1 : cutsL ws.length S = cutsL ws.length T := by unfold cutsL; rw [e _ (Nat.le_refl _)]
  have e2 : countsL ws.length S = countsL ws.length T := by
    unfold countsL
    refine List.map_congr_left fun c hc => ?_
    have := List.mem_range.mp hc
    unfold cnt
    rw [e c (by omega)]
  exact ⟨⟨dx, t, u, v, h1, by rw [← pick_congr h]; exact h2, by rw [← e1]; exact h3, by rw [← e2]; exact h4⟩, h5⟩
section
variable {P : Program} {w : World} {K : PySem.W.Frag} {mg : Str → Option Value} {base : Heap} {f : Addr} {fd : FuncData}
structure WkNe (K : PySem.W.Frag) (C : Addr) : Prop where
  ne_Work : PySem.W.findIn K (.ref C) "__ne__" = some (some (.builtin "object.__ne__"))
  ob_Work : PySem.W.subIn K (.ref C) (.type "object") = some true
def spOneW (CW CE : Addr) : Sp := fun vs H Q _ => ∃ (a b wk wk' : Addr) (nm : Str) (ws : List Str) (S T : Nat → Bool), vs = [.ref a, .ref b] ∧ EdAt CW CE H a wk nm ws S ∧ EdAt CW CE H b wk' nm ws T ∧ WOk ws ∧ Q .non H
abbrev s_require_one_work : Stmt := top 23
theorem sc_require_one_work : FnScope ["one", "other"] ["one", "other"] (defScope s_require_one_work) := ⟨rfl, rfl, rfl, by decide +kernel, rfl, by decide +kernel, by decide +kernel⟩
theorem ok_onew {CW CE fE : Addr} {fdE : FuncData} (F : Fun K "require_one_work" "require_one_work" s_require_one_work f fd) (W : EdTxt K CE) (T : WkNe K CW) (M_Work_eq : MetOk P w K mg base 1 CW "__eq__" fE fdE ["self", "other"] (spWkEq CW)) :
    FnOk P w K mg base CX0 3 f fd ["one", "other"] (spOneW CW CE) := by
  refine F.ok sc_require_one_work (fun vs H Q E h => ?_) (fun cdv A outer s H vs Q E hr h => ?_)
  · obtain ⟨a, b, wk, wk', nm, ws, S, U, rfl, _⟩ := h
    rfl
  · obtain ⟨a, b, wk, wk', nm, ws, S, U, rfl, he, hf, hw, k⟩ := h
    obtain ⟨dx, t, u, v, h1, h2, h3, h4⟩ := id he.ob
    obtain ⟨dy, t', u', v', g1, g2, g3, g4⟩ := id hf.ob
    obtain ⟨dw, tw, ew, o1, _, _⟩ := id he.wk.ob
    obtain ⟨dw', tw', ew', o1', _, _⟩ := id hf.wk.ob
    refine ⟨_, (pss_one (ps_if (pt_cmpR (M_Work_eq.ne T.ne_Work T.ob_Work (hr.mono (by decide))) (pe_fld (pv 0) rfl) (pe_fld (pv 1) rfl) (nomark _)) (pss_one ps_never) pss_nil)), ?_⟩
    refine ⟨_, rfl, a, CE, dx, _, _, rfl, h1, W.cl, W.nK, ed_work _ _ _ _, _, rfl, b, CE, dy, _, _, rfl, g1, W.cl, W.nK, ed_work _ _ _ _, ?_⟩
    refine ⟨wk, dw, _, wk', dw', _, rfl, rfl, o1, o1', wk, wk', nm, nm, ws, ws, rfl, he.wk, hf.wk, hw.ok.wd, hw.ok.wd, ?_⟩
    rw [decide_eq_true (show nm = nm ∧ ws = ws from ⟨rfl, rfl⟩)]
    exact ⟨true, rfl, _, rfl, k⟩
/-- both editions are of equal works; what is made is of the first one's -/
def spJoin (CW CE : Addr) (op : Bool → Bool → Bool) : Sp := fun vs H Q _ => ∃ (a b wk wk' : Addr) (nm : Str) (ws : List Str) (S T : Nat → Bool), vs = [.ref a, .ref b] ∧ EdAt CW CE H a wk nm ws S ∧ EdAt CW CE H b wk' nm ws T ∧ WOk ws ∧
  ∀ p H', H p = none → Same H H' → EdAt CW CE H' p wk nm ws (fun i => op (S i) (T i)) → Q (.ref p) H'
abbrev s_Edition_and : Stmt := inClass (top 18) 8
theorem sc_Edition_and : FnScope ["self", "other", "word"] ["self", "other"] (defScope s_Edition_and) := ⟨rfl, rfl, rfl, by decide +kernel, rfl, by decide +kernel, by decide +kernel⟩
theorem ok_and {CW CE fO fE : Addr} {fdO fdE : FuncData} (F : Fun K "__and__" "Edition.__and__" s_Edition_and f fd) (W : EdTxt K CE) (D_require_one_work : DefOk P w K mg base 3 "require_one_work" fO fdO ["one", "other"] (spOneW CW CE))
    (K_Edition : ClsOk P w K mg base 4 "Edition" CE fE fdE ["self", "work", "passages"] (spEdInit CW CE)) : FnOk P w K mg base CX0 6 f fd ["self", "other"] (spJoin CW CE fun a b => a && b) := by
  refine F.ok sc_Edition_and (fun vs H Q E h => ?_) (fun cdv A outer s H vs Q E hr h => ?_)
  · obtain ⟨a, b, wk, wk', nm, ws, S, U, rfl, _⟩ := h
    rfl
  · obtain ⟨a, b, wk, wk', nm, ws, S, U, rfl, he, hf, hw, k⟩ := h
    obtain ⟨dx, t, u, v, h1, h2, h3, h4⟩ := id he.ob
    obtain ⟨dy, t', u', v', g1, g2, g3, g4⟩ := id hf.ob
    refine ⟨_, (pss_cons (ps_expr (pe_d D_require_one_work (hr.mono (by decide)) (pa_cons (pv 0) (pa_cons (pv 1) pa_nil))))
        (pss_one (ps_ret (pe_mk K_Edition (hr.mono (by decide)) (by exact (pa_cons (pe_fld (pv 0) rfl) (pa_cons (pe_lc (own := [("word", 2)]) (g := gName 2) (tt := (tTest (tOp (rIn K false) (tVar 2) (tFld K (tVar 1) "words")))) (te := (tVar 2)) rfl sc_Edition_and.nd (pi_tup (pe_fld (pv 0) rfl)) (blkOk_by (own := [("word", 2)]) (by kernel_rfl)) (fun _ _ _ _ _ => (pg_name (i := 2) sc_Edition_and.nd rfl (by first | exact Or.inl rfl | exact Or.inr rfl))) (fun _ _ _ _ _ => by exact (pts_one (pt_cmpR op_in_seq (pv 2) (pe_fld (pv 1) rfl) (by rfl)))) (fun _ _ _ _ _ => by exact (pv 2))) pa_nil))))))), ?_⟩
    refine ⟨_, rfl, _, rfl, a, b, wk, wk', nm, ws, S, U, rfl, he, hf, hw, ?_⟩
    refine ⟨_, rfl, a, CE, dx, _, _, rfl, h1, W.cl, W.nK, ed_work _ _ _ _, ?_⟩
    refine ⟨_, rfl, a, CE, dx, _, _, rfl, h1, W.cl, W.nW, ed_words _ _ _ _, t, rfl, ⟨_, SqT.of h2⟩, fun D nD => ?_⟩
    refine lc_tup (K := K) (a := t) (xs := (pick ws S).map V.str) (fun i H' => Same H H' ∧ H' D = some (.lst ((((idx ws.length S).take i).filter U).map fun j => V.str (ws.getD j no)))) ⟨Same.upd' nD, upd_same⟩ (fun i H' _ p => SqT.of (p.1 _ _ h2)) ?_ ?_
    · rintro i x H' hx ⟨e, hD⟩
      have hi : i < (idx ws.length S).length := by
        have := (List.getElem?_eq_some_iff.mp hx).1
        unfold pick at this
        simpa using this
      obtain ⟨j, hj⟩ : ∃ j, (idx ws.length S)[i]? = some j := ⟨_, List.getElem?_eq_getElem hi⟩
      have hjm := idx_mem.mp (List.mem_of_getElem? hj)
      rw [pick_at hj] at hx
      cases (Option.some.inj hx)
      refine ⟨rfl, _, rfl, _, rfl, b, CE, dy, _, _, rfl, e _ _ g1, W.cl, W.nW, ed_words _ _ _ _, t', _, rfl, .inr (SqT.of (e _ _ g2)), rfl, strs_flat _, _, rfl, ?_⟩
      show if inV (.str (ws.getD j no)) ((pick ws U).map V.str) = true then _ else _
      rw [strs_in, pick_in hw.ok.nd hjm.1]
      have hlen : (((idx ws.length S).take i).filter U).length ≤ 60 := Nat.le_trans (List.length_filter_le _ _) (Nat.le_trans (by simp; omega) (Nat.le_trans (idx_len ws.length S) hw.l1))
      refine ite2 (fun hU => ?_) (fun hU => ?_)
      · refine ⟨_, rfl, _, hD, small1000 (by rw [List.length_map]; omega), Same.mut e nD, ?_⟩
        rw [upd_same, List.take_succ, hj]
        simp [hU]
      · refine ⟨e, ?_⟩
        rw [hD, List.take_succ, hj]
        simp [hU]
    · rintro H' ⟨e, hD⟩
      have hl : ((pick ws S).map V.str).length = (idx ws.length S).length := by rw [List.length_map]; unfold pick; rw [List.length_map]
      rw [hl, List.take_length, filter_and] at hD
      refine mkEd (S := fun i => S i && U i) (he.wk.same e) hw (.inl ?_) fun x H2 nx e2 hx => k x H2 (Same.free e nx) (Same.trans e e2) hx
      rw [hD]
      unfold pick
      rw [List.map_map]
      rfl
abbrev s_Edition_sub : Stmt := inClass (top 18) 10
theorem sc_Edition_sub : FnScope ["self", "other", "word"] ["self", "other"] (defScope s_Edition_sub) := ⟨rfl, rfl, rfl, by decide +kernel, rfl, by decide +kernel, by decide +kernel⟩
theorem ok_sub {CW CE fO fE : Addr} {fdO fdE : FuncData} (F : Fun K "__sub__" "Edition.__sub__" s_Edition_sub f fd) (W : EdTxt K CE) (D_require_one_work : DefOk P w K mg base 3 "require_one_work" fO fdO ["one", "other"] (spOneW CW CE))
    (K_Edition : ClsOk P w K mg base 4 "Edition" CE fE fdE ["self", "work", "passages"] (spEdInit CW CE)) : FnOk P w K mg base CX0 6 f fd ["self", "other"] (spJoin CW CE fun a b => a && !b) := by
  refine F.ok sc_Edition_sub (fun vs H Q E h => ?_) (fun cdv A outer s H vs Q E hr h => ?_)
  · obtain ⟨a, b, wk, wk', nm, ws, S, U, rfl, _⟩ := h
    rfl
  · obtain ⟨a, b, wk, wk', nm, ws, S, U, rfl, he, hf, hw, k⟩ := h
    obtain ⟨dx, t, u, v, h1, h2, h3, h4⟩ := id he.ob
    obtain ⟨dy, t', u', v', g1, g2, g3, g4⟩ := id hf.ob
    refine ⟨_, (pss_cons (ps_expr (pe_d D_require_one_work (hr.mono (by decide)) (pa_cons (pv 0) (pa_cons (pv 1) pa_nil))))
        (pss_one (ps_ret (pe_mk K_Edition (hr.mono (by decide)) (by exact (pa_cons (pe_fld (pv 0) rfl) (pa_cons (pe_lc (own := [("word", 2)]) (g := gName 2) (tt := (tTest (tOp (rIn K true) (tVar 2) (tFld K (tVar 1) "words")))) (te := (tVar 2)) rfl sc_Edition_sub.nd (pi_tup (pe_fld (pv 0) rfl)) (blkOk_by (own := [("word", 2)]) (by kernel_rfl)) (fun _ _ _ _ _ => (pg_name (i := 2) sc_Edition_sub.nd rfl (by first | exact Or.inl rfl | exact Or.inr rfl))) (fun _ _ _ _ _ => by exact (pts_one (pt_cmpR op_notIn_seq (pv 2) (pe_fld (pv 1) rfl) (by rfl)))) (fun _ _ _ _ _ => by exact (pv 2))) pa_nil))))))), ?_⟩
    refine ⟨_, rfl, _, rfl, a, b, wk, wk', nm, ws, S, U, rfl, he, hf, hw, ?_⟩
    refine ⟨_, rfl, a, CE, dx, _, _, rfl, h1, W.cl, W.nK, ed_work _ _ _ _, ?_⟩
    refine ⟨_, rfl, a, CE, dx, _, _, rfl, h1, W.cl, W.nW, ed_words _ _ _ _, t, rfl, ⟨_, SqT.of h2⟩, fun D nD => ?_⟩
    refine lc_tup (K := K) (a := t) (xs := (pick ws S).map V.str) (fun i H' => Same H H' ∧ H' D = some (.lst ((((idx ws.length S).take i).filter fun j => !U j).map fun j => V.str (ws.getD j no)))) ⟨Same.upd' nD, upd_same⟩ (fun i H' _ p => SqT.of (p.1 _ _ h2)) ?_ ?_
    · rintro i x H' hx ⟨e, hD⟩
      have hi : i < (idx ws.length S).length := by
        have := (List.getElem?_eq_some_iff.mp hx).1
        unfold pick at this
        simpa using this
      obtain ⟨j, hj⟩ : ∃ j, (idx ws.length S)[i]? = some j := ⟨_, List.getElem?_eq_getElem hi⟩
      have hjm := idx_mem.mp (List.mem_of_getElem? hj)
      rw [pick_at hj] at hx
      cases (Option.some.inj hx)
      refine ⟨rfl, _, rfl, _, rfl, b, CE, dy, _, _, rfl, e _ _ g1, W.cl, W.nW, ed_words _ _ _ _, t', _, rfl, .inr (SqT.of (e _ _ g2)), rfl, strs_flat _, _, rfl, ?_⟩
      show if (!inV (.str (ws.getD j no)) ((pick ws U).map V.str)) = true then _ else _
      rw [strs_in, pick_in hw.ok.nd hjm.1]
      have hlen : (((idx ws.length S).take i).filter fun j => !U j).length ≤ 60 := Nat.le_trans (List.length_filter_le _ _) (Nat.le_trans (by simp; omega) (Nat.le_trans (idx_len ws.length S) hw.l1))
      refine ite2 (fun hU => ?_) (fun hU => ?_)
      · refine ⟨_, rfl, _, hD, small1000 (by rw [List.length_map]; omega), Same.mut e nD, ?_⟩
        have hU : U j = false := by simpa using hU
        rw [upd_same, List.take_succ, hj]
        simp [hU]
      · refine ⟨e, ?_⟩
        have hU : U j = true := by simpa using hU
        rw [hD, List.take_succ, hj]
        simp [hU]
    · rintro H' ⟨e, hD⟩
      have hl : ((pick ws S).map V.str).length = (idx ws.length S).length := by rw [List.length_map]; unfold pick; rw [List.length_map]
      rw [hl, List.take_length, filter_and] at hD
      refine mkEd (S := fun i => S i && !U i) (he.wk.same e) hw (.inl ?_) fun x H2 nx e2 hx => k x H2 (Same.free e nx) (Same.trans e e2) hx
      rw [hD]
      unfold pick
      rw [List.map_map]
      rfl
abbrev s_Edition_or : Stmt := inClass (top 18) 9
theorem sc_Edition_or : FnScope ["self", "other", "either", "word"] ["self", "other"] (defScope s_Edition_or) := ⟨rfl, rfl, rfl, by decide +kernel, rfl, by decide +kernel, by decide +kernel⟩
theorem ok_or {CW CE fO fE : Addr} {fdO fdE : FuncData} (F : Fun K "__or__" "Edition.__or__" s_Edition_or f fd) (W : EdTxt K CE) (W' : WkTxt K CW) (D_require_one_work : DefOk P w K mg base 3 "require_one_work" fO fdO ["one", "other"] (spOneW CW CE))
    (K_Edition : ClsOk P w K mg base 4 "Edition" CE fE fdE ["self", "work", "passages"] (spEdInit CW CE)) : FnOk P w K mg base CX0 6 f fd ["self", "other"] (spJoin CW CE fun a b => a || b) := by
  refine F.ok sc_Edition_or (fun vs H Q E h => ?_) (fun cdv A outer s H vs Q E hr h => ?_)
  · obtain ⟨a, b, wk, wk', nm, ws, S, U, rfl, _⟩ := h
    rfl
  · obtain ⟨a, b, wk, wk', nm, ws, S, U, rfl, he, hf, hw, k⟩ := h
    obtain ⟨dx, t, u, v, h1, h2, h3, h4⟩ := id he.ob
    obtain ⟨dy, t', u', v', g1, g2, g3, g4⟩ := id hf.ob
    obtain ⟨dw, tw, ew, o1, o2, o3⟩ := id he.wk.ob
    refine ⟨_, (pss_cons (ps_expr (pe_d D_require_one_work (hr.mono (by decide)) (pa_cons (pv 0) (pa_cons (pv 1) pa_nil))))
        (pss_cons (ps_setLc (i := 2) (own := [("word", 3)]) (g := gName 3) (tt := (tOr (tTest (tOp (rIn K false) (tVar 3) (tFld K (tVar 0) "words"))) (tTest (tOp (rIn K false) (tVar 3) (tFld K (tVar 1) "words"))))) (te := (tVar 3)) rfl sc_Edition_or.nd rfl rfl (sw_true rfl rfl rfl (by decide +kernel)) (pi_tup (pe_fld (pe_fld (pv 0) rfl) rfl)) (blkOk_by (own := [("word", 3)]) (by kernel_rfl)) (fun _ _ _ _ _ => (pg_name (i := 3) sc_Edition_or.nd rfl (by first | exact Or.inl rfl | exact Or.inr rfl))) (fun _ _ _ _ _ => by exact (pts_one (PW.pt (pw_or (pt_cmpR op_in_seq (pv 3) (pe_fld (pv 0) rfl) (by rfl)) (pw_or1 (pt_cmpR op_in_seq (pv 3) (pe_fld (pv 1) rfl) (by rfl))))))) (fun _ _ _ _ _ => by exact (pv 3)))
        (pss_one (ps_ret (pe_mk K_Edition (hr.mono (by decide)) (pa_cons (pe_fld (pv 0) rfl) (pa_cons (pv 2) pa_nil))))))), ?_⟩
    refine ⟨_, rfl, _, rfl, a, b, wk, wk', nm, ws, S, U, rfl, he, hf, hw, ?_⟩
    refine ⟨_, rfl, a, CE, dx, _, _, rfl, h1, W.cl, W.nK, ed_work _ _ _ _, wk, CW, dw, _, _, rfl, o1, W'.cl, W'.nW, wk_words _ _ _, tw, rfl, ⟨_, SqT.of o2⟩, fun D nD => ?_⟩
    refine lc_tup (K := K) (a := tw) (xs := ws.map V.str) (fun i H' => Same H H' ∧ H' D = some (.lst (((List.range i).filter fun j => S j || U j).map fun j => V.str (ws.getD j no)))) ⟨Same.upd' nD, upd_same⟩ (fun i H' _ p => SqT.of (p.1 _ _ o2)) ?_ ?_
    · rintro i x H' hx ⟨e, hD⟩
      have hi : i < ws.length := by
        have := (List.getElem?_eq_some_iff.mp hx).1
        simpa using this
      rw [List.getElem?_map, nth_at hi] at hx
      cases (Option.some.inj hx)
      have hlen : ((List.range i).filter fun j => S j || U j).length ≤ 60 := Nat.le_trans (List.length_filter_le _ _) (by have := hw.l1; simp; omega)
      have no_ : (S i || U i) = false → Same H H' ∧ H' D = some (.lst (((List.range (i + 1)).filter fun j => S j || U j).map fun j => V.str (ws.getD j no))) := fun hb => ⟨e, by rw [hD, List.range_succ, List.filter_append]; simp [hb]⟩
      have yes_ : (S i || U i) = true → Same H (upd H' D (.lst ((((List.range i).filter fun j => S j || U j).map fun j => V.str (ws.getD j no)) ++ [.str (ws.getD i no)]))) ∧ (upd H' D (.lst ((((List.range i).filter fun j => S j || U j).map fun j => V.str (ws.getD j no)) ++ [.str (ws.getD i no)]))) D = some (.lst (((List.range (i + 1)).filter fun j => S j || U j).map fun j => V.str (ws.getD j no))) :=
        fun hb => ⟨Same.mut e nD, by rw [upd_same, List.range_succ, List.filter_append]; simp [hb]⟩
      refine ⟨rfl, _, rfl, _, rfl, a, CE, dx, _, _, rfl, e _ _ h1, W.cl, W.nW, ed_words _ _ _ _, t, _, rfl, .inr (SqT.of (e _ _ h2)), rfl, strs_flat _, _, rfl, ?_⟩
      show if inV (.str (ws.getD i no)) ((pick ws S).map V.str) = true then _ else _
      rw [strs_in, pick_in hw.ok.nd hi]
      refine ite2 (fun hS => ?_) (fun hS => ?_)
      · exact ⟨_, rfl, _, hD, small1000 (by rw [List.length_map]; omega), yes_ (by simp [hS])⟩
      · refine ⟨_, rfl, _, rfl, b, CE, dy, _, _, rfl, e _ _ g1, W.cl, W.nW, ed_words _ _ _ _, t', _, rfl, .inr (SqT.of (e _ _ g2)), rfl, strs_flat _, _, rfl, ?_⟩
        show if inV (.str (ws.getD i no)) ((pick ws U).map V.str) = true then _ else _
        rw [strs_in, pick_in hw.ok.nd hi]
        refine ite2 (fun hU => ?_) (fun hU => ?_)
        · exact ⟨_, rfl, _, hD, small1000 (by rw [List.length_map]; omega), yes_ (by simp [hU])⟩
        · exact no_ (by simp [hS, hU])
    · rintro H' ⟨e, hD⟩
      rw [List.length_map] at hD
      refine ⟨_, rfl, a, CE, dx, _, _, rfl, e _ _ h1, W.cl, W.nK, ed_work _ _ _ _, _, rfl, ?_⟩
      refine mkEd (S := fun i => S i || U i) (he.wk.same e) hw (.inl ?_) fun x H2 nx e2 hx => k x H2 (Same.free e nx) (Same.trans e e2) hx
      rw [hD]
      unfold pick
      rw [List.map_map]
      rfl
def spLe (CW CE : Addr) : Sp := fun vs H Q _ => ∃ (a b wk wk' : Addr) (nm : Str) (ws : List Str) (S T : Nat → Bool), vs = [.ref a, .ref b] ∧ EdAt CW CE H a wk nm ws S ∧ EdAt CW CE H b wk' nm ws T ∧ WOk ws ∧
  ∀ H', Same H H' → Q (.bl ((idx ws.length S).all T)) H'
abbrev s_Edition_le : Stmt := inClass (top 18) 11
theorem sc_Edition_le : FnScope ["self", "other", "word"] ["self", "other"] (defScope s_Edition_le) := ⟨rfl, rfl, rfl, by decide +kernel, rfl, by decide +kernel, by decide +kernel⟩
theorem ok_le {CW CE fO : Addr} {fdO : FuncData} (F : Fun K "__le__" "Edition.__le__" s_Edition_le f fd) (T : Blt mg) (W : EdTxt K CE) (D_require_one_work : DefOk P w K mg base 3 "require_one_work" fO fdO ["one", "other"] (spOneW CW CE)) :
    FnOk P w K mg base CX0 4 f fd ["self", "other"] (spLe CW CE) := by
  refine F.ok sc_Edition_le (fun vs H Q E h => ?_) (fun cdv A outer s H vs Q E hr h => ?_)
  · obtain ⟨a, b, wk, wk', nm, ws, S, U, rfl, _⟩ := h
    rfl
  · obtain ⟨a, b, wk, wk', nm, ws, S, U, rfl, he, hf, hw, k⟩ := h
    obtain ⟨dx, t, u, v, h1, h2, h3, h4⟩ := id he.ob
    obtain ⟨dy, t', u', v', g1, g2, g3, g4⟩ := id hf.ob
    refine ⟨_, (pss_cons (ps_expr (pe_d D_require_one_work (hr.mono (by decide)) (pa_cons (pv 0) (pa_cons (pv 1) pa_nil))))
        (pss_one (ps_ret (pe_callB (cr_all rfl) (by rfl) T.b_all (by decide +kernel) (by exact (pa_cons (pe_lc (own := [("word", 2)]) (g := gName 2) (tt := tYes) (te := (tOp (rIn K false) (tVar 2) (tFld K (tVar 1) "words"))) rfl sc_Edition_le.nd (pi_tup (pe_fld (pv 0) rfl)) (blkOk_by (own := [("word", 2)]) (by kernel_rfl)) (fun _ _ _ _ _ => (pg_name (i := 2) sc_Edition_le.nd rfl (by first | exact Or.inl rfl | exact Or.inr rfl))) (fun _ _ _ _ _ => pts_nil) (fun _ _ _ _ _ => by exact (pe_cmpR op_in_seq (pv 2) (pe_fld (pv 1) rfl) (by rfl)))) pa_nil)))))), ?_⟩
    refine ⟨_, rfl, _, rfl, a, b, wk, wk', nm, ws, S, U, rfl, he, hf, hw, ?_⟩
    refine ⟨_, rfl, a, CE, dx, _, _, rfl, h1, W.cl, W.nW, ed_words _ _ _ _, t, rfl, ⟨_, SqT.of h2⟩, fun D nD => ?_⟩
    refine lc_tup (K := K) (a := t) (xs := (pick ws S).map V.str) (fun i H' => Same H H' ∧ H' D = some (.lst ((((idx ws.length S).take i).map U).map V.bl))) ⟨Same.upd' nD, upd_same⟩ (fun i H' _ p => SqT.of (p.1 _ _ h2)) ?_ ?_
    · rintro i x H' hx ⟨e, hD⟩
      have hi : i < (idx ws.length S).length := by
        have := (List.getElem?_eq_some_iff.mp hx).1
        unfold pick at this
        simpa using this
      obtain ⟨j, hj⟩ : ∃ j, (idx ws.length S)[i]? = some j := ⟨_, List.getElem?_eq_getElem hi⟩
      have hjm := idx_mem.mp (List.mem_of_getElem? hj)
      rw [pick_at hj] at hx
      cases (Option.some.inj hx)
      refine ⟨rfl, _, rfl, _, rfl, b, CE, dy, _, _, rfl, e _ _ g1, W.cl, W.nW, ed_words _ _ _ _, t', _, rfl, .inr (SqT.of (e _ _ g2)), rfl, strs_flat _, _, hD, small1000 (by simp; have := idx_len ws.length S; have := hw.l1; omega), Same.mut e nD, ?_⟩
      rw [upd_same]
      show some (HO.lst (_ ++ [V.bl (inV (.str (ws.getD j no)) ((pick ws U).map V.str))])) = _
      rw [strs_in, pick_in hw.ok.nd hjm.1, List.take_succ, hj]
      simp
    · rintro H' ⟨e, hD⟩
      have hl : ((pick ws S).map V.str).length = (idx ws.length S).length := by rw [List.length_map]; unfold pick; rw [List.length_map]
      rw [hl, List.take_length] at hD
      refine ⟨_, _, rfl, SqL.of hD, ?_⟩
      have q := k H' e
      have e2 : ((idx ws.length S).map U).all id = (idx ws.length S).all U := by rw [List.all_map]; rfl
      rw [← e2] at q
      exact q
end
end Lm

namespace Lm
open PySem L2
/-! ### the law's own defs -/
def kerL (N : Nat) (S : Nat → Bool) : List Nat := (List.range (N + 1)).map (ker S)
theorem kerL_len (N : Nat) (S : Nat → Bool) : (kerL N S).length = N + 1 := by unfold kerL; simp
theorem kerL_at {N c : Nat} (S : Nat → Bool) (h : c ≤ N) : (kerL N S)[c]? = some (ker S c) := by
  unfold kerL
  rw [List.getElem?_map, List.getElem?_range (by omega)]
  rfl
theorem not_fresh {H H' : Hp} {p : Addr} (e : Same H H') (h : H' p = none) : H p = none := e.free h
theorem StAt.neL {H : Hp} {st c : Addr} (S : StAt H st c) : ∃ xs, H st = some (.lst xs) := let ⟨⟨_, _, _, h⟩, _, _⟩ := S; ⟨_, h⟩
section
variable {P : Program} {w : World} {K : PySem.W.Frag} {mg : Str → Option Value} {base : Heap} {f : Addr} {fd : FuncData}
def spBase (CW : Addr) : Sp := fun vs H Q _ => ∃ (st c : Addr) (m : Nat), vs = [.ref st, .int m] ∧ StAt H st c ∧ 1 ≤ m ∧ m ≤ 60 ∧ ∀ (t r wk tw : Addr) (ws : List Str) (H' : Hp), WOk ws → ws.length = m → H t = none → H r = none → H' t = some (.tup [.ref r, .ref wk, .ref tw]) → H' r = some (.lst (ws.map V.str)) →
  WkAt CW H' wk "a" ws → WkAt CW H' tw "a" ws → StAt H' st c → Kp st H H' → Q (.ref t) H'
abbrev s_base : Stmt := top 41
theorem sc_base : FnScope ["_law_state", "_law_many_here", "_law_rows_here"] ["_law_state", "_law_many_here"] (defScope s_base) := ⟨rfl, rfl, rfl, by decide +kernel, rfl, by decide +kernel, by decide +kernel⟩
theorem ok_base {CW fW fS : Addr} {fdW fdS : FuncData} (F : Fun K "_law_base" "_law_base" s_base f fd) (T : Blt mg) (D_some_words : DefOk P w K mg base 3 "_law_some_words" fS fdS ["_law_state", "_law_many_here"] spSomeW)
    (K_Work : ClsOk P w K mg base 2 "Work" CW fW fdW ["self", "name", "passages"] (spWkInit CW)) : FnOk P w K mg base CX0 4 f fd ["_law_state", "_law_many_here"] (spBase CW) := by
  refine F.ok sc_base (fun vs H Q E h => ?_) (fun cdv A outer s H vs Q E hr h => ?_)
  · obtain ⟨st, c, m, rfl, _⟩ := h
    rfl
  · obtain ⟨st, c, m, rfl, S, m0, m1, k⟩ := h
    refine ⟨_, (pss_cons (ps_set (i := 2) sc_base.nd rfl (by first | exact Or.inl rfl | exact Or.inr rfl) (pe_d D_some_words (hr.mono (by decide)) (pa_cons (pv 0) (pa_cons (pv 1) pa_nil))))
        (pss_one (ps_ret (pe_tup (pa_cons (pv 2) (pa_cons (pe_mk K_Work (hr.mono (by decide)) (pa_cons pe_str (pa_cons (pv 2) pa_nil))) (pa_cons (pe_mk K_Work (hr.mono (by decide)) (pa_cons pe_str (pa_cons (pe_callTy call_tuple_of (by rfl) T.b_tuple (by decide +kernel) (pa_cons (pv 2) pa_nil)) pa_nil))) pa_nil))))))), ?_⟩
    refine ⟨_, rfl, _, rfl, st, c, m, rfl, S, m1, fun r ws H1 nr hw S1 e1 hr1 => ?_⟩
    have hok : WOk ws := ⟨by rw [hw.len]; exact hw, by rw [hw.len]; omega, by rw [hw.len]; omega⟩
    obtain ⟨hrs, hrc⟩ := S.of_new nr
    refine ⟨_, rfl, _, rfl, ?_⟩
    refine mkWk (nm := "a") (by decide +kernel) hok (.inl hr1) fun wk H2 nwk e2 hwk => ?_
    refine ⟨_, rfl, r, _, rfl, .inl ⟨SqL.of (e2 _ _ hr1), fun q nq => ?_⟩⟩
    refine mkWk (nm := "a") (by decide +kernel) hok (.inr upd_same) fun tw H3 ntw e3 htw => ?_
    refine ⟨by show 3 ≤ sizeLine; decide, fun t nt => ?_⟩
    have e13 : Same H1 H3 := (e2.trans (Same.upd' nq)).trans e3
    have e23 : Same H2 H3 := (Same.upd' nq).trans e3
    have nt1 : H1 t = none := e13.free nt
    have hts : t ≠ st := (S1.of_new nt1).1
    refine k t r wk tw ws _ hok hw.len (e1.free hts nt1) nr upd_same ((Same.upd' nt) _ _ (e13 _ _ hr1)) ((hwk.same e23).same (Same.upd' nt)) (htw.same (Same.upd' nt)) ((S1.same e13).same (Same.upd' nt)) ((e1.trans (Kp.of e13)).trans (Kp.of (Same.upd' nt)))
def spEdn (CW CE : Addr) : Sp := fun vs H Q _ => ∃ (wk r l : Addr) (nm : Str) (ws : List Str) (S : Nat → Bool), vs = [.ref wk, .ref r, .ref l] ∧ WkAt CW H wk nm ws ∧ WOk ws ∧ H r = some (.lst (ws.map V.str)) ∧ H l = some (.lst (nts (idx ws.length S))) ∧
  ∀ p H', H p = none → Same H H' → EdAt CW CE H' p wk nm ws S → Q (.ref p) H'
abbrev s_edition : Stmt := top 42
theorem sc_edition : FnScope ["_law_base_here", "_law_rows_here", "_law_numbers", "_law_k"] ["_law_base_here", "_law_rows_here", "_law_numbers"] (defScope s_edition) := ⟨rfl, rfl, rfl, by decide +kernel, rfl, by decide +kernel, by decide +kernel⟩
theorem ok_edn {CW CE fE : Addr} {fdE : FuncData} (F : Fun K "_law_edition" "_law_edition" s_edition f fd) (K_Edition : ClsOk P w K mg base 4 "Edition" CE fE fdE ["self", "work", "passages"] (spEdInit CW CE)) : FnOk P w K mg base CX0 6 f fd ["_law_base_here", "_law_rows_here", "_law_numbers"] (spEdn CW CE) := by
  refine F.ok sc_edition (fun vs H Q E h => ?_) (fun cdv A outer s H vs Q E hr h => ?_)
  · obtain ⟨wk, r, l, nm, ws, S, rfl, _⟩ := h
    rfl
  · obtain ⟨wk, r, l, nm, ws, S, rfl, kw, hw, hrr, hl, k⟩ := h
    refine ⟨_, (pss_one (ps_ret (pe_mk K_Edition (hr.mono (by decide)) (by exact (pa_cons (pv 0) (pa_cons (pe_lc (own := [("_law_k", 3)]) (g := gName 3) (tt := tYes) (te := (tOp (rIxL K) (tVar 1) (tVar 3))) rfl sc_edition.nd (pi_list (pv 2)) (blkOk_by (own := [("_law_k", 3)]) (by kernel_rfl)) (fun _ _ _ _ _ => (pg_name (i := 3) sc_edition.nd rfl (by first | exact Or.inl rfl | exact Or.inr rfl))) (fun _ _ _ _ _ => pts_nil) (fun _ _ _ _ _ => by exact (pe_ix ix_list (pv 1) (pv 3) (fun _ _ => rfl)))) pa_nil)))))), ?_⟩
    refine ⟨_, rfl, _, rfl, l, rfl, ⟨_, SqL.of hl⟩, fun D nD => ?_⟩
    refine lc_list (K := K) (a := l) (xs := nts (idx ws.length S)) (fun i H' => Same H H' ∧ H' D = some (.lst (((idx ws.length S).take i).map fun j => V.str (ws.getD j no)))) ⟨Same.upd' nD, upd_same⟩ (fun i H' _ p => SqL.of (p.1 _ _ hl)) ?_ ?_
    · rintro i x H' hx ⟨e, hD⟩
      have hi : i < (idx ws.length S).length := by
        have := (List.getElem?_eq_some_iff.mp hx).1
        rw [nts_len] at this
        exact this
      obtain ⟨j, hj⟩ : ∃ j, (idx ws.length S)[i]? = some j := ⟨_, List.getElem?_eq_getElem hi⟩
      have hjm := idx_mem.mp (List.mem_of_getElem? hj)
      rw [nts_at hj] at hx
      cases (Option.some.inj hx)
      refine ⟨rfl, _, rfl, _, rfl, r, _, _, _, rfl, rfl, SqL.of (e _ _ hrr), atI_nat (by rw [List.getElem?_map, nth_at hjm.1]; rfl), _, hD, small1000 (by simp; have := idx_len ws.length S; have := hw.l1; omega), Same.mut e nD, ?_⟩
      rw [upd_same, List.take_succ, hj]
      simp
    · rintro H' ⟨e, hD⟩
      rw [nts_len, List.take_length] at hD
      refine mkEd (S := S) (kw.same e) hw (.inl ?_) fun x H2 nx e2 hx => k x H2 (Same.free e nx) (Same.trans e e2) hx
      rw [hD]
      unfold pick
      rw [List.map_map]
      rfl
end
end Lm

namespace Lm
open PySem L2 Evl RZ
structure EdIsi (K : PySem.W.Frag) (mg : Str → Option Value) (C : Addr) : Prop where
  g_Edition : mg "Edition" = some (.ref C)
  ha : PySem.W.findIn K (.ref C) "__class__" = some (some (.builtin "object.__class__"))
  hn : PySem.W.specialIn K (.builtin "object.__class__") "__get__" = some (some (.builtin "getset_descriptor.__get__"))
  htk : PySem.W.takesIn K (.builtin "object.__class__") = some true
  hm : PySem.W.mroIn K C (.type "object") = some true
  ko : PySem.W.kitOne K (.ref C) (.ref C) = some true
/-! ### two things that are the same, of depth below d -/
def SameV (H : Hp) : Nat → V → V → Prop
  | 0 => fun _ _ => False
  | d + 1 => fun x y => (∃ i, x = .int i ∧ y = .int i) ∨ (∃ b, x = .bl b ∧ y = .bl b) ∨ (∃ s, x = .str s ∧ y = .str s) ∨ (x = .non ∧ y = .non) ∨
    (∃ a b xs ys, x = .ref a ∧ y = .ref b ∧ H a = some (.lst xs) ∧ H b = some (.lst ys) ∧ xs.length = ys.length ∧ xs.length ≤ 40000 ∧ ∀ (i : Nat) u v, xs[i]? = some u → ys[i]? = some v → SameV H d u v) ∨
    (∃ a b xs ys, x = .ref a ∧ y = .ref b ∧ H a = some (.tup xs) ∧ H b = some (.tup ys) ∧ xs.length = ys.length ∧ xs.length ≤ 40000 ∧ ∀ (i : Nat) u v, xs[i]? = some u → ys[i]? = some v → SameV H d u v) ∨ (∃ a, x = .ref a ∧ y = .ref a ∧ H a = some (.dK []))
theorem SameV.ex {H H' : Hp} (e : Ex H H') : ∀ {d : Nat} {x y : V}, SameV H d x y → SameV H' d x y
  | 0, _, _, h => h
  | d + 1, x, y, h => by
    rcases h with h | h | h | h | ⟨a, b, xs, ys, rfl, rfl, ha, hb, h1, h2, h3⟩ | ⟨a, b, xs, ys, rfl, rfl, ha, hb, h1, h2, h3⟩ | ⟨a, rfl, rfl, ha⟩
    · exact .inl h
    · exact .inr (.inl h)
    · exact .inr (.inr (.inl h))
    · exact .inr (.inr (.inr (.inl h)))
    · exact .inr (.inr (.inr (.inr (.inl ⟨a, b, xs, ys, rfl, rfl, e _ _ ha, e _ _ hb, h1, h2, fun i u v q1 q2 => SameV.ex e (h3 i u v q1 q2)⟩))))
    · exact .inr (.inr (.inr (.inr (.inr (.inl ⟨a, b, xs, ys, rfl, rfl, e _ _ ha, e _ _ hb, h1, h2, fun i u v q1 q2 => SameV.ex e (h3 i u v q1 q2)⟩)))))
    · exact .inr (.inr (.inr (.inr (.inr (.inr ⟨a, rfl, rfl, e _ _ ha⟩)))))
theorem SameV.int {H : Hp} {d : Nat} (i : Int) : SameV H (d + 1) (.int i) (.int i) := .inl ⟨i, rfl, rfl⟩
theorem SameV.bl {H : Hp} {d : Nat} (i : Bool) : SameV H (d + 1) (.bl i) (.bl i) := .inr (.inl ⟨i, rfl, rfl⟩)
theorem SameV.str {H : Hp} {d : Nat} (i : Str) : SameV H (d + 1) (.str i) (.str i) := .inr (.inr (.inl ⟨i, rfl, rfl⟩))
theorem SameV.non {H : Hp} {d : Nat} : SameV H (d + 1) .non .non := .inr (.inr (.inr (.inl ⟨rfl, rfl⟩)))
theorem SameV.lst {H : Hp} {d : Nat} {a b : Addr} {xs ys : List V} (ha : H a = some (.lst xs)) (hb : H b = some (.lst ys)) (h1 : xs.length = ys.length) (h2 : xs.length ≤ 40000) (h3 : ∀ (i : Nat) u v, xs[i]? = some u → ys[i]? = some v → SameV H d u v) : SameV H (d + 1) (.ref a) (.ref b) :=
  .inr (.inr (.inr (.inr (.inl ⟨a, b, xs, ys, rfl, rfl, ha, hb, h1, h2, h3⟩))))
theorem SameV.tup {H : Hp} {d : Nat} {a b : Addr} {xs ys : List V} (ha : H a = some (.tup xs)) (hb : H b = some (.tup ys)) (h1 : xs.length = ys.length) (h2 : xs.length ≤ 40000) (h3 : ∀ (i : Nat) u v, xs[i]? = some u → ys[i]? = some v → SameV H d u v) : SameV H (d + 1) (.ref a) (.ref b) :=
  .inr (.inr (.inr (.inr (.inr (.inl ⟨a, b, xs, ys, rfl, rfl, ha, hb, h1, h2, h3⟩)))))
theorem SameV.dct {H : Hp} {d : Nat} {a : Addr} (ha : H a = some (.dK [])) : SameV H (d + 1) (.ref a) (.ref a) := .inr (.inr (.inr (.inr (.inr (.inr ⟨a, rfl, rfl, ha⟩)))))
theorem rv_eqD {H : Hp} {x y : V} (h : scal x y = true) : RV (fun x y H Q => rEq x y H Q ∨ rEqDA x y H Q) x y H (.bl (decide (x = y))) := fun H1 _ _ q => .inl ⟨h, q H1 (Ex.refl H1)⟩
theorem rv_eqDd {H : Hp} {a : Addr} (h : H a = some (.dK [])) : RV (fun x y H Q => rEq x y H Q ∨ rEqDA x y H Q) (.ref a) (.ref a) H (.bl true) := fun H1 e _ q => .inr ⟨a, a, [], [], rfl, rfl, e _ _ h, e _ _ h, rfl, fun p hp => (List.not_mem_nil hp).elim, q H1 (Ex.refl H1)⟩
/-- lists of flat things alike -/
theorem SameV.flat {H : Hp} {d : Nat} {a b : Addr} {xs : List V} (ha : H a = some (.lst xs)) (hb : H b = some (.lst xs)) (h2 : xs.length ≤ 40000) (h : ∀ x ∈ xs, SameV H (d + 1) x x) : SameV H (d + 2) (.ref a) (.ref b) :=
  .lst ha hb rfl h2 fun i u v q1 q2 => by
    rw [q1] at q2
    cases (Option.some.inj q2)
    exact h u (List.mem_of_getElem? q1)
theorem ok_none {P : Program} {w : World} {K : PySem.W.Frag} {mg : Str → Option Value} {base : Heap} {f : Addr} {fd : FuncData} {k : Nat} {ps : List Str} : FnOk P w K mg base CX0 k f fd ps (fun _ _ _ _ => False) :=
  ⟨fun _ _ _ _ h => h.elim, fun _ _ _ _ _ _ _ _ _ _ _ _ _ h => h.elim⟩
section
variable {K : PySem.W.Frag} {σ : L2.St} {H : Hp} {te : TE}
theorem ev_isi {x c : V} {t u : Value} {b : Bool} (h : Ev te σ H x) (hc : ClsV c u) (ht : ∀ H1, Ex H H1 → TyX K H1 x t) (hk : PySem.W.kitOne K t u = some b) : Ev (tCB (rIsi K) (tCons te (tCons (tC c) tNil))) σ H (.bl b) :=
  ev_cb (ea_cons h (ea_cons ev_c ea_nil)) fun H1 e Q q => ⟨x, c, t, u, b, rfl, hc, ht H1 e, hk, q H1 (Ex.refl _)⟩
theorem ev_isiT {x : V} {cs : List V} {t : Value} {us : List Value} {b : Bool} {ta : TA} (h : Ev te σ H x) (hcs : EvA ta σ H cs) (hl : cs.length ≤ 100000) (hc : Paired ClsV cs us) (ht : ∀ H1, Ex H H1 → TyX K H1 x t) (hk : PySem.W.kitAny K t us = some b) :
    Ev (tCB (rIsiT K) (tCons te (tCons (tTup ta) tNil))) σ H (.bl b) := fun H1 e Q q => h H1 e _ fun H2 e2 => hcs H2 (e.trans e2) _ fun H3 e3 => ⟨sz_of hl, fun p np =>
      ⟨x, p, cs, t, us, b, rfl, upd_same, hc, ht _ (((e.trans e2).trans e3).trans (Ex.new np)), hk, q _ ((e2.trans e3).trans (Ex.new np))⟩⟩
/-- over zip of two lists -/
theorem el_lcZ {a b : Addr} {xs ys : List V} {ta tb : TE} {i j : Nat} {vs : List Nat} (v : Nat → V) (ha : Ev ta σ H (.ref a)) (hb : Ev tb σ H (.ref b)) (hx : H a = some (.lst xs) ∧ H b = some (.lst ys) ∨ H a = some (.tup xs) ∧ H b = some (.tup ys)) (hl : xs.length = ys.length) (hz : xs.length ≤ 40000)
    (hw : ∀ x y, wipe (((wipe σ vs).set i (some x)).set j (some y)) vs = wipe σ vs) (he : ∀ (n : Nat) (x y : V) H1, Ex H H1 → xs[n]? = some x → ys[n]? = some y → Ev te (((wipe σ vs).set i (some x)).set j (some y)) H1 (v n)) :
    EvL (tLc (iZipA K (tCons ta (tCons tb tNil))) (gTup K 2 (gCons (gName i) (gCons (gName j) gNil))) tYes te vs) σ H ((List.range xs.length).map v) := fun H0 e Q q => ha H0 e _ fun H1 e1 => hb H1 (e.trans e1) _ fun H2 e2 => by
  have E := (e.trans e1).trans e2
  have hmin : xs.length = min xs.length ys.length := by omega
  have turn : ∀ (n : Nat) (z : V) (Hn Hn' : Hp) (D : Addr), n < xs.length → Cw H2 (fun _ => true) v D n Hn → YPair (fun i => xs[i]?) (fun i => ys[i]?) n Hn z Hn' →
      gTup K 2 (gCons (gName i) (gCons (gName j) gNil)) z (wipe σ vs) Hn' fun σ2 H2' => wipe σ2 vs = wipe σ vs ∧ tYes σ2 H2' fun b H3 => if b = true then te σ2 H3 fun y H4 => ∃ acc, H4 D = some (.lst acc) ∧ acc.length < sizeLine ∧ Cw H2 (fun _ => true) v D (n + 1) (upd H4 D (.lst (acc ++ [y]))) else Cw H2 (fun _ => true) v D (n + 1) H3 := by
    rintro n z Hn Hn' D hn p ⟨T', x, y, rfl, nT, rfl, hx1, hy1⟩
    refine ⟨T', _, rfl, SqT.of upd_same, rfl, _, _, rfl, _, _, rfl, rfl, hw x y, ?_⟩
    have p' : Cw H2 (fun _ => true) v D n (upd Hn T' (.tup [x, y])) := ⟨p.1, p.2.1.trans (Ex.new nT), by rw [upd_ne (ne_of_none p.2.2 nT)]; exact p.2.2⟩
    exact cw_turn (t := tYes) p' (by omega) (fun H1 _ _ q => q H1 (Ex.refl H1)) fun _ => he n x y H2 E hx1 hy1
  have fin : ∀ D H', Cw H2 (fun _ => true) v D xs.length H' → Q (.ref D) H' := fun D H' p => q D H' (fresh_back (e1.trans e2) p.1) ((e1.trans e2).trans p.2.1) (by
    rw [p.2.2]
    unfold given
    rw [List.filter_eq_self.mpr fun _ _ => rfl])
  refine ⟨a, b, xs, ys, rfl, ?_⟩
  rcases hx with ⟨h1, h2⟩ | ⟨h1, h2⟩
  · refine .inl ⟨sq_of (E _ _ h1), sq_of (E _ _ h2), fun D hD => lc_it (walk_zip hmin) (Cw H2 (fun _ => true) v D) ⟨hD, Ex.new hD, upd_same⟩ (fun n H' _ p => ⟨sq_of ((E.trans p.2.1) _ _ h1), sq_of ((E.trans p.2.1) _ _ h2)⟩) (fun n z Hn Hn' hn p y => turn n z Hn Hn' D hn p y) (fun H' p => fin D H' p)⟩
  · refine .inr ⟨st_of (E _ _ h1), st_of (E _ _ h2), fun D hD => lc_it (walk_zipT hmin) (Cw H2 (fun _ => true) v D) ⟨hD, Ex.new hD, upd_same⟩ (fun n H' _ p => ⟨st_of ((E.trans p.2.1) _ _ h1), st_of ((E.trans p.2.1) _ _ h2)⟩) (fun n z Hn Hn' hn p y => turn n z Hn Hn' D hn p y) (fun H' p => fin D H' p)⟩
theorem ev_lenL {p : Addr} {xs : List V} (ha : Ev te σ H (.ref p)) (h : H p = some (.lst xs)) : Ev (tCB (rLenS K) (tCons te tNil)) σ H (.int (xs.length : Int)) := ev_len ha (sq_of h)
theorem ev_lenT {p : Addr} {xs : List V} (ha : Ev te σ H (.ref p)) (h : H p = some (.tup xs)) : Ev (tCB (rLenS K) (tCons te tNil)) σ H (.int (xs.length : Int)) := ev_cb (ea_cons ha ea_nil) fun H1 e Q q => ⟨p, xs, rfl, .inr (st_of (e _ _ h)), q H1 (Ex.refl _)⟩
theorem ev_isB {x y : Bool} {ta tb : TE} (ha : Ev ta σ H (.bl x)) (hb : Ev tb σ H (.bl y)) : Ev (tOp rIsB ta tb) σ H (.bl (decide (x = y))) := ev_op ha hb fun H1 _ Q q => ⟨x, y, rfl, rfl, q H1 (Ex.refl _)⟩
theorem ev_all {bs : List Bool} (h : EvL te σ H (bs.map V.bl)) : Ev (tCB (rAll K) (tCons te tNil)) σ H (.bl (bs.all id)) := fun H1 e Q q =>
  h H1 e _ fun p H2 _ e2 hp => ⟨p, bs, rfl, sq_of hp, q H2 e2⟩
end
theorem kAny4 {K : PySem.W.Frag} {t : String} {c1 c2 c3 c4 : String} (h1 : kitB t c1 = some false) (h2 : kitB t c2 = some false) (h3 : kitB t c3 = some false) (h4 : kitB t c4 = some false) : PySem.W.kitAny K (.type t) [.type c1, .type c2, .type c3, .type c4] = some false :=
  kitAny_cons (kit_ty h1) (fun _ => kitAny_cons (kit_ty h2) (fun _ => kitAny_cons (kit_ty h3) (fun _ => kitAny_cons (kit_ty h4) (fun _ => rfl) (fun z => nomatch z)) (fun z => nomatch z)) (fun z => nomatch z)) (fun z => nomatch z)
theorem kAny2 {K : PySem.W.Frag} {t : String} {c1 c2 : String} (h1 : kitB t c1 = some false) (h2 : kitB t c2 = some false) : PySem.W.kitAny K (.type t) [.type c1, .type c2] = some false :=
  kitAny_cons (kit_ty h1) (fun _ => kitAny_cons (kit_ty h2) (fun _ => rfl) (fun z => nomatch z)) (fun z => nomatch z)
theorem kAnyL {K : PySem.W.Frag} : PySem.W.kitAny K (.type "list") [.type "list", .type "tuple"] = some true := kitAny_cons (b := true) (kit_ty (by decide +kernel)) (fun z => nomatch z) (fun _ => rfl)
theorem kAnyT {K : PySem.W.Frag} : PySem.W.kitAny K (.type "tuple") [.type "list", .type "tuple"] = some true := kitAny_cons (b := false) (kit_ty (by decide +kernel)) (fun _ => kitAny_cons (b := true) (kit_ty (by decide +kernel)) (fun z => nomatch z) (fun _ => rfl)) (fun z => nomatch z)
theorem pairT2 {c1 c2 : String} : Paired ClsV [V.ty c1, V.ty c2] [Value.type c1, Value.type c2] := .cons (.ty _) (.cons (.ty _) .nil)
theorem pairT4 {c1 c2 c3 c4 : String} : Paired ClsV [V.ty c1, V.ty c2, V.ty c3, V.ty c4] [Value.type c1, Value.type c2, Value.type c3, Value.type c4] := .cons (.ty _) (.cons (.ty _) (.cons (.ty _) (.cons (.ty _) .nil)))
section
variable {P : Program} {w : World} {K : PySem.W.Frag} {mg : Str → Option Value} {base : Heap} {f : Addr} {fd : FuncData}
def spSame (d : Nat) : Sp := fun vs H Q _ => ∃ x y, vs = [x, y] ∧ SameV H d x y ∧ ∀ H', Same H H' → Q (.bl true) H'
abbrev s_same : Stmt := top 34
theorem sc_same : FnScope ["_law_found", "_law_due", "_law_a", "_law_b"] ["_law_found", "_law_due"] (defScope s_same) := ⟨rfl, rfl, rfl, by decide +kernel, rfl, by decide +kernel, by decide +kernel⟩
theorem ok_same {d : Nat} (F : Fun K "_law_same" "_law_same" s_same f fd) (T : Blt mg) (D_same : DefOk P w K mg base d "_law_same" f fd ["_law_found", "_law_due"] (spSame d)) : FnOk P w K mg base CX0 (d + 1) f fd ["_law_found", "_law_due"] (spSame (d + 1)) := by
  refine F.ok sc_same (fun vs H Q E h => ?_) (fun cdv A outer s H vs Q E hr h => ?_)
  · obtain ⟨x, y, rfl, _⟩ := h
    rfl
  · obtain ⟨x, y, rfl, hxy, k⟩ := h
    have D_room : Room d _ := hr
    refine ⟨_, (pss_cons (ps_if (pt_val (pe_callB call_isiT (by rfl) T.b_isinstance (by decide +kernel) (pa_cons (pv 1) (pa_cons (pe_tup (pa_cons (pe_bltn (v := .ty "list") (u := .type "list") (by rfl) T.b_list (by decide +kernel) rfl) (pa_cons (pe_bltn (v := .ty "tuple") (u := .type "tuple") (by rfl) T.b_tuple (by decide +kernel) rfl) pa_nil))) pa_nil)))) (pss_cons (ps_if (PW.pt (pw_or (pt_cmpR op_ne (pe_callB call_isi (by rfl) T.b_isinstance (by decide +kernel) (pa_cons (pv 0) (pa_cons (pe_bltn (v := .ty "list") (u := .type "list") (by rfl) T.b_list (by decide +kernel) rfl) pa_nil))) (pe_callB call_isi (by rfl) T.b_isinstance (by decide +kernel) (pa_cons (pv 1) (pa_cons (pe_bltn (v := .ty "list") (u := .type "list") (by rfl) T.b_list (by decide +kernel) rfl) pa_nil))) (nomark _)) (pw_or1 (pt_cmpR op_ne (pe_callB call_isi (by rfl) T.b_isinstance (by decide +kernel) (pa_cons (pv 0) (pa_cons (pe_bltn (v := .ty "tuple") (u := .type "tuple") (by rfl) T.b_tuple (by decide +kernel) rfl) pa_nil))) (pe_callB call_isi (by rfl) T.b_isinstance (by decide +kernel) (pa_cons (pv 1) (pa_cons (pe_bltn (v := .ty "tuple") (u := .type "tuple") (by rfl) T.b_tuple (by decide +kernel) rfl) pa_nil))) (nomark _))))) (pss_one (ps_ret pe_bl)) pss_nil)
        (pss_one (ps_ret (pe_and (pe_cmpR op_eq (pe_callB call_len_seq (by rfl) T.b_len PySem.boot_len (pa_cons (pv 0) pa_nil)) (pe_callB call_len_seq (by rfl) T.b_len PySem.boot_len (pa_cons (pv 1) pa_nil)) (nomark _)) (pe_one (pe_callB (cr_all rfl) (by rfl) T.b_all (by decide +kernel) (by exact (pa_cons (pe_lc (own := [("_law_a", 2), ("_law_b", 3)]) (g := gTup K 2 (gCons (gName 2) (gCons (gName 3) gNil))) (tt := tYes) (te := (tCall (spSame d) [] E0 (tCons (tVar 2) (tCons (tVar 3) tNil)))) rfl sc_same.nd (pi_zipA rfl T.b_zip (pa_cons (pv 0) (pa_cons (pv 1) pa_nil))) (blkOk_by (own := [("_law_a", 2), ("_law_b", 3)]) (by kernel_rfl)) (fun _ _ _ _ _ => (pg_tup rfl (pgs_cons (pg_name (i := 2) sc_same.nd rfl (by first | exact Or.inl rfl | exact Or.inr rfl)) (pgs_cons (pg_name (i := 3) sc_same.nd rfl (by first | exact Or.inl rfl | exact Or.inr rfl)) pgs_nil)))) (fun _ _ _ _ _ => pts_nil) (fun _ _ _ _ _ => by exact (pe_d D_same D_room (pa_cons (pv 2) (pa_cons (pv 3) pa_nil))))) pa_nil)))))))) pss_nil)
        (pss_cons (ps_if (pt_val (pe_callB call_isi (by rfl) T.b_isinstance (by decide +kernel) (pa_cons (pv 1) (pa_cons (pe_bltn (v := .ty "int") (u := .type "int") (by rfl) T.b_int (by decide +kernel) rfl) pa_nil)))) (pss_one (ps_ret (pe_and (pe_callB call_isi (by rfl) T.b_isinstance (by decide +kernel) (pa_cons (pv 0) (pa_cons (pe_bltn (v := .ty "int") (u := .type "int") (by rfl) T.b_int (by decide +kernel) rfl) pa_nil))) (pe_and (pe_cmpR op_eq (pe_callB call_isi (by rfl) T.b_isinstance (by decide +kernel) (pa_cons (pv 0) (pa_cons (pe_bltn (v := .ty "bool") (u := .type "bool") (by rfl) T.b_bool (by decide +kernel) rfl) pa_nil))) (pe_callB call_isi (by rfl) T.b_isinstance (by decide +kernel) (pa_cons (pv 1) (pa_cons (pe_bltn (v := .ty "bool") (u := .type "bool") (by rfl) T.b_bool (by decide +kernel) rfl) pa_nil))) (nomark _)) (pe_one (pe_cmpR (op_or op_eq (op_eq_dictA (Nat.lt_of_le_of_lt (Nat.le_add_right _ 64) hr.units))) (pv 0) (pv 1) (nomark _))))))) pss_nil)
        (pss_one (ps_ret (pe_and (pe_cmpR op_isBl (pe_callB call_isiT (by rfl) T.b_isinstance (by decide +kernel) (pa_cons (pv 0) (pa_cons (pe_tup (pa_cons (pe_bltn (v := .ty "bool") (u := .type "bool") (by rfl) T.b_bool (by decide +kernel) rfl) (pa_cons (pe_bltn (v := .ty "int") (u := .type "int") (by rfl) T.b_int (by decide +kernel) rfl) (pa_cons (pe_bltn (v := .ty "list") (u := .type "list") (by rfl) T.b_list (by decide +kernel) rfl) (pa_cons (pe_bltn (v := .ty "tuple") (u := .type "tuple") (by rfl) T.b_tuple (by decide +kernel) rfl) pa_nil))))) pa_nil))) pe_bl (nomark _)) (pe_one (pe_cmpR (op_or op_eq (op_eq_dictA (Nat.lt_of_le_of_lt (Nat.le_add_right _ 64) hr.units))) (pv 0) (pv 1) (nomark _)))))))), ?_⟩
    have two : ∀ x : V, EvA (tCons (tC (.ty "list")) (tCons (tC (.ty "tuple")) tNil)) [some x, some y, none, none] H [.ty "list", .ty "tuple"] := fun _ => ea_cons ev_c (ea_cons ev_c ea_nil)
    rcases hxy with ⟨i, rfl, rfl⟩ | ⟨i, rfl, rfl⟩ | ⟨i, rfl, rfl⟩ | ⟨rfl, rfl⟩ | ⟨a, b, xs, ys, rfl, rfl, ha, hb, h1, h2, h3⟩ | ⟨a, b, xs, ys, rfl, rfl, ha, hb, h1, h2, h3⟩ | ⟨a, rfl, rfl, ha⟩
    · refine q_when (et_B (ev_isiT (ev_var rfl) (ea_cons ev_c (ea_cons ev_c ea_nil)) (by decide) pairT2 (fun _ _ => .base (.int i)) (kAny2 (by decide +kernel) (by decide +kernel)))) (fun z => nomatch z) fun _ H1 e1 => ?_
      refine q_when (et_B (ev_isi (b := true) (ev_var rfl) (.ty _) (fun _ _ => .base (.int i)) (kit_ty (by decide +kernel)))) (fun _ H2 e2 => ?_) (fun z => nomatch z)
      refine s_ret (ev_is (ev_andV (ev_isi (b := true) (ev_var rfl) (.ty _) (fun _ _ => .base (.int i)) (kit_ty (by decide +kernel))) fun _ => ev_andV (ev_op (ev_isi (b := false) (ev_var rfl) (.ty _) (fun _ _ => .base (.int i)) (kit_ty (by decide +kernel))) (ev_isi (b := false) (ev_var rfl) (.ty _) (fun _ _ => .base (.int i)) (kit_ty (by decide +kernel))) (rv_eq rfl)) fun _ => ev_op (ev_var rfl) (ev_var rfl) (rv_eqD rfl)) ?_) fun H3 e3 => k H3 (Ex.trans e1 (Ex.trans e2 e3))
      simp
    · refine q_when (et_B (ev_isiT (ev_var rfl) (ea_cons ev_c (ea_cons ev_c ea_nil)) (by decide) pairT2 (fun _ _ => .base (.bl i)) (kAny2 (by decide +kernel) (by decide +kernel)))) (fun z => nomatch z) fun _ H1 e1 => ?_
      refine q_when (et_B (ev_isi (b := true) (ev_var rfl) (.ty _) (fun _ _ => .base (.bl i)) (kit_ty (by decide +kernel)))) (fun _ H2 e2 => ?_) (fun z => nomatch z)
      refine s_ret (ev_is (ev_andV (ev_isi (b := true) (ev_var rfl) (.ty _) (fun _ _ => .base (.bl i)) (kit_ty (by decide +kernel))) fun _ => ev_andV (ev_op (ev_isi (b := true) (ev_var rfl) (.ty _) (fun _ _ => .base (.bl i)) (kit_ty (by decide +kernel))) (ev_isi (b := true) (ev_var rfl) (.ty _) (fun _ _ => .base (.bl i)) (kit_ty (by decide +kernel))) (rv_eq rfl)) fun _ => ev_op (ev_var rfl) (ev_var rfl) (rv_eqD rfl)) ?_) fun H3 e3 => k H3 (Ex.trans e1 (Ex.trans e2 e3))
      simp
    · refine q_when (et_B (ev_isiT (ev_var rfl) (ea_cons ev_c (ea_cons ev_c ea_nil)) (by decide) pairT2 (fun _ _ => .base (.str i)) (kAny2 (by decide +kernel) (by decide +kernel)))) (fun z => nomatch z) fun _ H1 e1 => ?_
      refine q_when (et_B (ev_isi (b := false) (ev_var rfl) (.ty _) (fun _ _ => .base (.str i)) (kit_ty (by decide +kernel)))) (fun z => nomatch z) (fun _ H2 e2 => ?_)
      refine s_ret (ev_is (ev_andV (ev_isB (ev_isiT (ev_var rfl) (ea_cons ev_c (ea_cons ev_c (ea_cons ev_c (ea_cons ev_c ea_nil)))) (by decide) pairT4 (fun _ _ => .base (.str i)) (kAny4 (by decide +kernel) (by decide +kernel) (by decide +kernel) (by decide +kernel))) ev_c) fun _ => ev_op (ev_var rfl) (ev_var rfl) (rv_eqD rfl)) ?_) fun H3 e3 => k H3 (Ex.trans e1 (Ex.trans e2 e3))
      simp
    · refine q_when (et_B (ev_isiT (ev_var rfl) (ea_cons ev_c (ea_cons ev_c ea_nil)) (by decide) pairT2 (fun _ _ => .base .non) (kAny2 (by decide +kernel) (by decide +kernel)))) (fun z => nomatch z) fun _ H1 e1 => ?_
      refine q_when (et_B (ev_isi (b := false) (ev_var rfl) (.ty _) (fun _ _ => .base .non) (kit_ty (by decide +kernel)))) (fun z => nomatch z) (fun _ H2 e2 => ?_)
      refine s_ret (ev_is (ev_andV (ev_isB (ev_isiT (ev_var rfl) (ea_cons ev_c (ea_cons ev_c (ea_cons ev_c (ea_cons ev_c ea_nil)))) (by decide) pairT4 (fun _ _ => .base .non) (kAny4 (by decide +kernel) (by decide +kernel) (by decide +kernel) (by decide +kernel))) ev_c) fun _ => ev_op (ev_var rfl) (ev_var rfl) (rv_eqD rfl)) ?_) fun H3 e3 => k H3 (Ex.trans e1 (Ex.trans e2 e3))
      simp
    · refine q_when (et_B (ev_isiT (ev_var rfl) (ea_cons ev_c (ea_cons ev_c ea_nil)) (by decide) pairT2 (fun H1 e => .base (.lst (e _ _ hb))) kAnyL)) (fun _ H1 e1 => ?_) (fun z => nomatch z)
      have ha1 := e1 _ _ ha
      have hb1 := e1 _ _ hb
      refine q_when (b := false) (et_is (et_or (et_test (ev_op (ev_isi (b := true) (ev_var rfl) (.ty _) (fun _ e => .base (.lst (e _ _ ha1))) (kit_ty (by decide +kernel))) (ev_isi (b := true) (ev_var rfl) (.ty _) (fun _ e => .base (.lst (e _ _ hb1))) (kit_ty (by decide +kernel))) (rv_ne rfl))) fun _ => et_test (ev_op (ev_isi (b := false) (ev_var rfl) (.ty _) (fun _ e => .base (.lst (e _ _ ha1))) (kit_ty (by decide +kernel))) (ev_isi (b := false) (ev_var rfl) (.ty _) (fun _ e => .base (.lst (e _ _ hb1))) (kit_ty (by decide +kernel))) (rv_ne rfl))) (by simp)) (fun z => nomatch z) fun _ H2 e2 => ?_
      have ha2 := e2 _ _ ha1
      have hb2 := e2 _ _ hb1
      have lc : EvL (tLc (iZipA K (tCons (tVar 0) (tCons (tVar 1) tNil))) (gTup K 2 (gCons (gName 2) (gCons (gName 3) gNil))) tYes (tCall (spSame d) [] E0 (tCons (tVar 2) (tCons (tVar 3) tNil))) [2, 3]) [some (.ref a), some (.ref b), none, none] H2 ((List.range xs.length).map fun _ => V.bl true) :=
        el_lcZ (fun _ => V.bl true) (ev_var rfl) (ev_var rfl) (.inl ⟨ha2, hb2⟩) h1 h2 (fun _ _ => rfl) fun n x y H3 e3 hx hy => ev_call (ea_cons (ev_var rfl) (ea_cons (ev_var rfl) ea_nil)) fun H4 e4 Q q E => ⟨x, y, rfl, (h3 n x y hx hy).ex (Ex.trans e1 (Ex.trans e2 (Ex.trans e3 e4))), fun H5 s5 => q H5 s5⟩
      have hall := ev_all (K := K) (bs := (List.range xs.length).map fun _ => true) (by rw [List.map_map]; exact lc)
      refine s_ret (ev_is (ev_andV (ev_op (ev_lenL (ev_var rfl) ha2) (ev_lenL (ev_var rfl) hb2) (rv_eq rfl)) fun _ => hall) ?_) fun H3 e3 => k H3 (Ex.trans e1 (Ex.trans e2 e3))
      rw [h1]
      simp
    · refine q_when (et_B (ev_isiT (ev_var rfl) (ea_cons ev_c (ea_cons ev_c ea_nil)) (by decide) pairT2 (fun H1 e => .base (.tup (e _ _ hb))) kAnyT)) (fun _ H1 e1 => ?_) (fun z => nomatch z)
      have ha1 := e1 _ _ ha
      have hb1 := e1 _ _ hb
      refine q_when (b := false) (et_is (et_or (et_test (ev_op (ev_isi (b := false) (ev_var rfl) (.ty _) (fun _ e => .base (.tup (e _ _ ha1))) (kit_ty (by decide +kernel))) (ev_isi (b := false) (ev_var rfl) (.ty _) (fun _ e => .base (.tup (e _ _ hb1))) (kit_ty (by decide +kernel))) (rv_ne rfl))) fun _ => et_test (ev_op (ev_isi (b := true) (ev_var rfl) (.ty _) (fun _ e => .base (.tup (e _ _ ha1))) (kit_ty (by decide +kernel))) (ev_isi (b := true) (ev_var rfl) (.ty _) (fun _ e => .base (.tup (e _ _ hb1))) (kit_ty (by decide +kernel))) (rv_ne rfl))) (by simp)) (fun z => nomatch z) fun _ H2 e2 => ?_
      have ha2 := e2 _ _ ha1
      have hb2 := e2 _ _ hb1
      have lc : EvL (tLc (iZipA K (tCons (tVar 0) (tCons (tVar 1) tNil))) (gTup K 2 (gCons (gName 2) (gCons (gName 3) gNil))) tYes (tCall (spSame d) [] E0 (tCons (tVar 2) (tCons (tVar 3) tNil))) [2, 3]) [some (.ref a), some (.ref b), none, none] H2 ((List.range xs.length).map fun _ => V.bl true) :=
        el_lcZ (fun _ => V.bl true) (ev_var rfl) (ev_var rfl) (.inr ⟨ha2, hb2⟩) h1 h2 (fun _ _ => rfl) fun n x y H3 e3 hx hy => ev_call (ea_cons (ev_var rfl) (ea_cons (ev_var rfl) ea_nil)) fun H4 e4 Q q E => ⟨x, y, rfl, (h3 n x y hx hy).ex (Ex.trans e1 (Ex.trans e2 (Ex.trans e3 e4))), fun H5 s5 => q H5 s5⟩
      have hall := ev_all (K := K) (bs := (List.range xs.length).map fun _ => true) (by rw [List.map_map]; exact lc)
      refine s_ret (ev_is (ev_andV (ev_op (ev_lenT (ev_var rfl) ha2) (ev_lenT (ev_var rfl) hb2) (rv_eq rfl)) fun _ => hall) ?_) fun H3 e3 => k H3 (Ex.trans e1 (Ex.trans e2 e3))
      rw [h1]
      simp
    · refine q_when (et_B (ev_isiT (ev_var rfl) (ea_cons ev_c (ea_cons ev_c ea_nil)) (by decide) pairT2 (fun _ e => .base (.dK (e _ _ ha))) (kAny2 (by decide +kernel) (by decide +kernel)))) (fun z => nomatch z) fun _ H1 e1 => ?_
      refine q_when (et_B (ev_isi (b := false) (ev_var rfl) (.ty _) (fun _ e => .base (.dK (e _ _ (e1 _ _ ha)))) (kit_ty (by decide +kernel)))) (fun z => nomatch z) (fun _ H2 e2 => ?_)
      refine s_ret (ev_is (ev_andV (ev_isB (ev_isiT (ev_var rfl) (ea_cons ev_c (ea_cons ev_c (ea_cons ev_c (ea_cons ev_c ea_nil)))) (by decide) pairT4 (fun _ e => .base (.dK (e _ _ (e2 _ _ (e1 _ _ ha))))) (kAny4 (by decide +kernel) (by decide +kernel) (by decide +kernel) (by decide +kernel))) ev_c) fun _ => ev_op (ev_var rfl) (ev_var rfl) (rv_eqDd (e2 _ _ (e1 _ _ ha)))) ?_) fun H3 e3 => k H3 (Ex.trans e1 (Ex.trans e2 e3))
      simp
end
end Lm

namespace Lm
open PySem L2 Evl RZ
theorem wipe1 (σ : L2.St) (j : Nat) (x : V) : wipe ((wipe σ [j]).set j (some x)) [j] = wipe σ [j] := by
  show ((σ.set j none).set j (some x)).set j none = σ.set j none
  simp
def spLaw (K : PySem.W.Frag) : Sp := fun vs H Q _ => ∃ (a : Addr) (ns : List Int), vs = [.ref a] ∧ SqL K H a (ns.map V.int) ∧ ns.length ≤ 63 ∧ ∀ H', Q (.bl true) H'
theorem nextI {D : Ends} {σ : L2.St} {H : Hp} (h : D.nx σ H) : tNext D σ H := h
theorem wv {σ : L2.St} {i j : Nat} {x y : V} (h : i ≠ j) (hi : σ[i]? = some (some y)) : ((wipe σ [j]).set j (some x))[i]? = some (some y) := by
  show (((σ.set j none).set j (some x)))[i]? = _
  rw [List.getElem?_set_ne (Ne.symm h), List.getElem?_set_ne (Ne.symm h)]
  exact hi
theorem wj {σ : L2.St} {j : Nat} {x : V} (hl : j < σ.length) : ((wipe σ [j]).set j (some x))[j]? = some (some x) := by
  show (((σ.set j none).set j (some x)))[j]? = _
  rw [List.set_set, List.getElem?_set_self hl]
theorem el_rg {σ : L2.St} {H : Hp} {te : TE} {n : Int} (h : Ev te σ H (.int n)) (hn : 0 ≤ n ∧ n ≤ 100000) : EvL (tLstRg (tRg1 te)) σ H (nts (List.range n.toNat)) := fun H1 e Q q => h H1 e _ fun H2 e2 => by
  refine ⟨n, rfl, .of_le (by omega) (by omega) (by omega) (by omega), fun p hp => ?_⟩
  have e3 : rgV 0 n = nts (List.range n.toNat) := by
    unfold rgV nts
    rw [Int.sub_zero]
    exact List.map_congr_left fun i _ => by rw [Int.zero_add]
  rw [e3]
  exact q p _ (fresh_back e2 hp) (e2.trans (Ex.new hp)) upd_same
def refs (l : List Addr) : List V := l.map V.ref
theorem refs_len (l : List Addr) : (refs l).length = l.length := List.length_map ..
theorem refs_at {l : List Addr} {i : Nat} {a : Addr} (h : l[i]? = some a) : (refs l)[i]? = some (.ref a) := by
  unfold refs
  rw [List.getElem?_map, h]
  rfl
theorem refs_inv {l : List Addr} {i : Nat} {x : V} (h : (refs l)[i]? = some x) : ∃ a, l[i]? = some a ∧ x = .ref a := by
  unfold refs at h
  rw [List.getElem?_map] at h
  cases e : l[i]? with
  | none => rw [e] at h; cases h
  | some a => rw [e] at h; exact ⟨a, rfl, (Option.some.inj h).symm⟩
theorem map_getD {α : Type} (l : List Nat) (f : Nat → α) : (List.range l.length).map (fun i => f (l.getD i 0)) = l.map f := by
  refine List.ext_getElem? fun i => ?_
  rw [List.getElem?_map, List.getElem?_map]
  rcases Nat.lt_or_ge i l.length with h | h
  · rw [List.getElem?_range h, List.getElem?_eq_getElem h]
    simp [List.getD_eq_getElem?_getD, List.getElem?_eq_getElem h]
  · rw [List.getElem?_eq_none (by simpa using h), List.getElem?_eq_none h]
    rfl
def cutN (S : Nat → Bool) (N n : Nat) : Nat := (cutsL N S).getD n 0
theorem cutN_at {S : Nat → Bool} {N n : Nat} (h : n ≤ cnt S N) : (cutsL N S)[n]? = some (cutN S N n) := by
  unfold cutN
  rw [List.getD_eq_getElem?_getD, List.getElem?_eq_getElem (by rw [cutsL_len]; omega)]
  rfl
theorem cutN_ker {S : Nat → Bool} {N x : Nat} (h : x ≤ N) : cutN S N (cnt S x) = ker S x := by
  have h1 := cuts_at S h
  unfold cutN
  rw [List.getD_eq_getElem?_getD, h1]
  rfl
theorem cutN_of {S : Nat → Bool} {N n x : Nat} (h : (cutsL N S)[n]? = some x) : cutN S N n = x := by
  unfold cutN
  rw [List.getD_eq_getElem?_getD, h]
  rfl
theorem idx_lt {S : Nat → Bool} {c : Nat} : ∀ k, (idx (c + k) S).filter (fun i => decide (i < c)) = idx c S
  | 0 => by
    rw [Nat.add_zero]
    exact List.filter_eq_self.mpr fun i hi => decide_eq_true (idx_mem.mp hi).1
  | k + 1 => by
    have ih := idx_lt (S := S) (c := c) k
    rw [show c + (k + 1) = (c + k) + 1 by omega, idx_succ, List.filter_append, ih]
    have : (if S (c + k) = true then [c + k] else []).filter (fun i => decide (i < c)) = [] := by
      refine List.filter_eq_nil_iff.mpr fun i hi => ?_
      split at hi
      · rw [List.mem_singleton.mp hi]; simp
      · exact absurd hi List.not_mem_nil
    rw [this, List.append_nil]
theorem idx_ltN {S : Nat → Bool} {N c : Nat} (h : c ≤ N) : (idx N S).filter (fun i => decide (i < c)) = idx c S := by
  have := idx_lt (S := S) (c := c) (N - c)
  rw [show c + (N - c) = N by omega] at this
  exact this
theorem idx_all (N : Nat) : idx N (fun _ => true) = List.range N := List.filter_eq_self.mpr fun _ _ => rfl
theorem idx_non (N : Nat) : idx N (fun _ => false) = [] := by unfold idx; simp
section
variable {P : Program} {w : World} {K : PySem.W.Frag} {mg : Str → Option Value} {base : Heap} {f : Addr} {fd : FuncData}
def spCut : Sp := fun vs H Q _ => ∃ (l : Addr) (N n : Nat) (S : Nat → Bool), vs = [.ref l, .int n] ∧ H l = some (.lst (nts (idx N S))) ∧ n ≤ cnt S N ∧ Q (.int (cutN S N n : Nat)) H
def spAhead : Sp := fun vs H Q _ => ∃ (l : Addr) (N x : Nat) (S : Nat → Bool), vs = [.ref l, .int x] ∧ H l = some (.lst (nts (idx N S))) ∧ x ≤ N ∧ N ≤ 60 ∧ ∀ H', Same H H' → Q (.int (cnt S x : Nat)) H'
def spKern : Sp := fun vs H Q _ => ∃ (l : Addr) (N x : Nat) (S : Nat → Bool), vs = [.ref l, .int x] ∧ H l = some (.lst (nts (idx N S))) ∧ x ≤ N ∧ N ≤ 60 ∧ ∀ H', Same H H' → Q (.int (ker S x : Nat)) H'
end
end Lm

namespace Lm
open PySem L2 Evl RZ
theorem given_true (n : Nat) (v : Nat → V) : given n (fun _ => true) v = (List.range n).map v := by
  unfold given
  rw [List.filter_eq_self.mpr fun _ _ => rfl]
theorem range_mapD {α β : Type} (l : List α) (g : α → β) (d : β) : (List.range l.length).map (fun i => (l.map g).getD i d) = l.map g := by
  refine List.ext_getElem? fun i => ?_
  rw [List.getElem?_map, List.getElem?_map]
  rcases Nat.lt_or_ge i l.length with h | h
  · rw [List.getElem?_range h, List.getElem?_eq_getElem h]
    simp [List.getD_eq_getElem?_getD, List.getElem?_eq_getElem h]
  · rw [List.getElem?_eq_none (by simpa using h), List.getElem?_eq_none h]
    rfl
theorem getD_of {α β : Type} {l : List α} {g : α → β} {d : β} {i : Nat} {x : α} (h : l[i]? = some x) : (l.map g).getD i d = g x := by
  rw [List.getD_eq_getElem?_getD, List.getElem?_map, h]
  rfl
theorem et_yes {σ : L2.St} {H : Hp} : EvT tYes σ H true := fun H1 _ _ q => q H1 (Ex.refl H1)
section
variable {K : PySem.W.Frag} {σ : L2.St} {H : Hp} {ta tb te : TE}
theorem map_inv {α : Type} {l : List α} {f : α → V} {i : Nat} {v : V} (h : (l.map f)[i]? = some v) : ∃ x, l[i]? = some x ∧ v = f x := by
  rw [List.getElem?_map] at h
  cases e : l[i]? with
  | none => rw [e] at h; cases h
  | some a => rw [e] at h; exact ⟨a, rfl, (Option.some.inj h).symm⟩
/-- [e for x in l], l a list -/
theorem el_mapL {α : Type} {l : List α} {f g : α → V} {tl : TE} {j : Nat} {a : Addr} (h : Ev tl σ H (.ref a)) (ha : H a = some (.lst (l.map f))) (hz : l.length ≤ 40000) (he : ∀ x ∈ l, ∀ H1, Ex H H1 → Ev te ((wipe σ [j]).set j (some (f x))) H1 (g x)) :
    EvL (tLc (iList K tl) (gName j) tYes te [j]) σ H (l.map g) := by
  have := el_lcL (K := K) (σ := σ) (H := H) (tl := tl) (t := tYes) (te := te) (vs := [j]) (j := j) (fun _ => true) (fun i => (l.map g).getD i .non) h (sq_of ha) (by rw [List.length_map]; exact hz) (fun v => wipe1 _ j v) (fun _ _ _ _ _ => et_yes) fun i v H1 e1 hv _ => by
    obtain ⟨x, hx, rfl⟩ := map_inv hv
    rw [getD_of hx]
    exact he x (List.mem_of_getElem? hx) H1 e1
  rw [given_true, List.length_map, range_mapD] at this
  exact this
/-- … a new list -/
theorem el_mapN {α : Type} {l : List α} {f g : α → V} {tl : TE} {j : Nat} (h : EvL tl σ H (l.map f)) (hz : l.length ≤ 40000) (he : ∀ x ∈ l, ∀ H1, Ex H H1 → Ev te ((wipe σ [j]).set j (some (f x))) H1 (g x)) :
    EvL (tLc (iList K tl) (gName j) tYes te [j]) σ H (l.map g) := by
  have := el_lcNL (K := K) (σ := σ) (H := H) (tl := tl) (t := tYes) (te := te) (vs := [j]) (j := j) (fun _ => true) (fun i => (l.map g).getD i .non) h (by rw [List.length_map]; exact hz) (fun v => wipe1 _ j v) (fun _ _ _ _ _ => et_yes) fun i v H1 e1 hv _ => by
    obtain ⟨x, hx, rfl⟩ := map_inv hv
    rw [getD_of hx]
    exact he x (List.mem_of_getElem? hx) H1 e1
  rw [given_true, List.length_map, range_mapD] at this
  exact this
/-- … a tuple -/
theorem el_mapT {α : Type} {l : List α} {f g : α → V} {tl : TE} {j : Nat} {a : Addr} (h : Ev tl σ H (.ref a)) (ha : H a = some (.tup (l.map f))) (hz : l.length ≤ 40000) (he : ∀ x ∈ l, ∀ H1, Ex H H1 → Ev te ((wipe σ [j]).set j (some (f x))) H1 (g x)) :
    EvL (tLc (iTup K tl) (gName j) tYes te [j]) σ H (l.map g) := fun H0 e Q q => h H0 e _ fun H1 e1 => ⟨a, rfl, ⟨_, st_of ((Ex.trans e e1) _ _ ha)⟩, fun Dl hD => by
  refine lc_tup (K := K) (a := a) (xs := l.map f) (Cw H1 (fun _ => true) (fun i => (l.map g).getD i .non) Dl) ⟨hD, Ex.new hD, upd_same⟩ (fun i H' _ p => st_of (Ex.trans (Ex.trans e e1) p.2.1 _ _ ha)) (fun i v H' hv p => ⟨wipe1 _ j v, ?_⟩) (fun H' p => ?_)
  · obtain ⟨x, hx, rfl⟩ := map_inv hv
    refine cw_turn p (by have := (List.getElem?_eq_some_iff.mp hx).1; omega) et_yes fun _ => ?_
    rw [getD_of hx]
    exact he x (List.mem_of_getElem? hx) H1 (Ex.trans e e1)
  · have p3 := p.2.2
    rw [given_true, List.length_map, range_mapD] at p3
    exact q Dl H' (fresh_back e1 p.1) (Ex.trans e1 p.2.1) p3⟩
/-- [e for k in range(n)] -/
theorem el_mapR {ta : TA} {j : Nat} {n : Nat} {g : Nat → V} (h : EvA ta σ H [.int (n : Int)]) (hn : n ≤ 40000) (he : ∀ k < n, ∀ H1, Ex H H1 → Ev te ((wipe σ [j]).set j (some (.int (k : Nat)))) H1 (g k)) :
    EvL (tLc (iRng1 ta) (gName j) tYes te [j]) σ H ((List.range n).map g) := by
  have := el_lcR1 (σ := σ) (H := H) (ta := ta) (t := tYes) (te := te) (vs := [j]) (j := j) (n := (n : Int)) (fun _ => true) g h ⟨by omega, by omega⟩ (fun v => wipe1 _ j v) (fun _ _ _ _ => et_yes) fun i H1 e1 hi _ => he i (by omega) H1 e1
  rw [given_true] at this
  exact this
/-- [k for k in range(n) if t] -/
theorem el_filR {ta : TA} {tt : TT} {j : Nat} {n : Nat} {f : Nat → Bool} (h : EvA ta σ H [.int (n : Int)]) (hn : n ≤ 40000) (ht : ∀ k < n, ∀ H1, Ex H H1 → EvT tt ((wipe σ [j]).set j (some (.int (k : Nat)))) H1 (f k)) (hj : j < σ.length) :
    EvL (tLc (iRng1 ta) (gName j) tt (tVar j) [j]) σ H (nts ((List.range n).filter f)) := by
  have := el_lcR1 (σ := σ) (H := H) (ta := ta) (t := tt) (te := tVar j) (vs := [j]) (j := j) (n := (n : Int)) f (fun i => .int (i : Nat)) h ⟨by omega, by omega⟩ (fun v => wipe1 _ j v) (fun i H1 e1 hi => ht i (by omega) H1 e1) fun i H1 e1 hi _ => ev_var (wj hj)
  exact this
end
end Lm

namespace Lm
open PySem L2 Evl RZ
section
variable {P : Program} {w : World} {K : PySem.W.Frag} {mg : Str → Option Value} {base : Heap} {f : Addr} {fd : FuncData}
/-! ### the kernels of an edition -/
def spKernels (CW CE : Addr) : Sp := fun vs H Q _ => ∃ (a wk : Addr) (nm : Str) (ws : List Str) (S : Nat → Bool), vs = [.ref a] ∧ EdAt CW CE H a wk nm ws S ∧ ws.length ≤ 60 ∧ ∀ p H', H p = none → Same H H' → H' p = some (.lst (nts (kerL ws.length S))) → Q (.ref p) H'
abbrev s_Edition_kernels : Stmt := inClass (top 18) 5
theorem sc_Edition_kernels : FnScope ["self", "count"] ["self"] (defScope s_Edition_kernels) := ⟨rfl, rfl, rfl, by decide +kernel, rfl, by decide +kernel, by decide +kernel⟩
theorem ok_kernels {CW CE : Addr} (F : Fun K "kernels" "Edition.kernels" s_Edition_kernels f fd) (W : EdTxt K CE) : FnOk P w K mg base CX0 1 f fd ["self"] (spKernels CW CE) := by
  refine F.ok sc_Edition_kernels (fun vs H Q E h => ?_) (fun cdv A outer s H vs Q E hr h => ?_)
  · obtain ⟨a, wk, nm, ws, S, rfl, _⟩ := h
    rfl
  · obtain ⟨a, wk, nm, ws, S, rfl, he, l1, k⟩ := h
    obtain ⟨dx, t, u, v, h1, h2, h3, h4⟩ := id he.ob
    refine ⟨_, (pss_one (ps_ret (pe_lc (own := [("count", 1)]) (g := gName 1) (tt := tYes) (te := (tOp (rIxT K) (tFld K (tVar 0) "cuts") (tVar 1))) rfl sc_Edition_kernels.nd (pi_tup (pe_fld (pv 0) rfl)) (blkOk_by (own := [("count", 1)]) (by kernel_rfl)) (fun _ _ _ _ _ => (pg_name (i := 1) sc_Edition_kernels.nd rfl (by first | exact Or.inl rfl | exact Or.inr rfl))) (fun _ _ _ _ _ => pts_nil) (fun _ _ _ _ _ => by exact (pe_ix ix_tup (pe_fld (pv 0) rfl) (pv 1) (fun _ _ => rfl)))))), ?_⟩
    have fld : ∀ (σ : L2.St) (H1 : Hp) (nmx : Str) (x : V), (edF wk t u v).lookup nmx = some x → NoAttr K CE nmx → H1 a = some (.ins CE dx (edF wk t u v)) → σ[0]? = some (some (.ref a)) → Ev (tFld K (tVar 0) nmx) σ H1 x := fun σ H1 nmx x hl hn h1 hσ => fun H2 e2 Q q => ⟨_, hσ, a, CE, dx, _, _, rfl, e2 _ _ h1, W.cl, hn, hl, q H2 (Ex.refl _)⟩
    have hl : ((List.range (ws.length + 1)).map (cnt S)).length ≤ 40000 := by rw [List.length_map, List.length_range]; omega
    refine s_retL (el_mapT (l := (List.range (ws.length + 1)).map (cnt S)) (f := fun n : Nat => V.int n) (g := fun n => V.int (cutN S ws.length n : Nat)) (fld _ _ _ _ (ed_counts _ _ _ _) W.nN h1 rfl) h4 hl fun n hn H1 e1 => ?_) fun p H1 np e1 hp => k p H1 np e1 ?_
    · obtain ⟨c, hc, rfl⟩ := List.mem_map.mp hn
      have hc := List.mem_range.mp hc
      exact ev_op (fld _ _ _ _ (ed_cuts _ _ _ _) W.nC (e1 _ _ h1) rfl) (ev_var rfl) (rv_ixT (st_of (e1 _ _ h3)) (atI_nat (nts_at (cutN_at (cnt_mono (by omega))))))
    · rw [hp]
      unfold nts kerL
      rw [List.map_map, List.map_map]
      congr 2
      refine List.map_congr_left fun c hc => ?_
      have hc := List.mem_range.mp hc
      show V.int (cutN S ws.length (cnt S c) : Nat) = V.int (ker S c : Nat)
      rw [cutN_ker (by omega)]
/-! ### editions of one work in a row -/
structure EdsAt (CW CE : Addr) (H : Hp) (es : List Addr) (nm : Str) (ws : List Str) (Ss : List (Nat → Bool)) : Prop where
  len : es.length = Ss.length
  at_ : ∀ (i : Nat) e S, es[i]? = some e → Ss[i]? = some S → ∃ wk, EdAt CW CE H e wk nm ws S
theorem EdsAt.same {CW CE : Addr} {H H' : Hp} {es : List Addr} {nm : Str} {ws : List Str} {Ss : List (Nat → Bool)} (h : EdsAt CW CE H es nm ws Ss) (e : Same H H') : EdsAt CW CE H' es nm ws Ss :=
  ⟨h.len, fun i a S h1 h2 => let ⟨wk, k⟩ := h.at_ i a S h1 h2; ⟨wk, k.same e⟩⟩
theorem EdsAt.kp {CW CE st : Addr} {H H' : Hp} {es : List Addr} {nm : Str} {ws : List Str} {Ss : List (Nat → Bool)} {xs : List V} (h : EdsAt CW CE H es nm ws Ss) (e : Kp st H H') (hs : H st = some (.lst xs)) : EdsAt CW CE H' es nm ws Ss :=
  ⟨h.len, fun i a S h1 h2 => let ⟨wk, k⟩ := h.at_ i a S h1 h2; ⟨wk, k.kp e hs⟩⟩
theorem EdsAt.kpi {CW CE C' p dx : Addr} {H H' : Hp} {es : List Addr} {nm : Str} {ws : List Str} {Ss : List (Nat → Bool)} {fs : List (Str × V)} (h : EdsAt CW CE H es nm ws Ss) (e : Same H H') : EdsAt CW CE H' es nm ws Ss := h.same e
theorem EdsAt.get {CW CE : Addr} {H : Hp} {es : List Addr} {nm : Str} {ws : List Str} {Ss : List (Nat → Bool)} (h : EdsAt CW CE H es nm ws Ss) {i : Nat} {a : Addr} (h1 : es[i]? = some a) : ∃ S wk, Ss[i]? = some S ∧ EdAt CW CE H a wk nm ws S := by
  have hi : i < Ss.length := by rw [← h.len]; exact (List.getElem?_eq_some_iff.mp h1).1
  obtain ⟨wk, k⟩ := h.at_ i a _ h1 (List.getElem?_eq_getElem hi)
  exact ⟨_, wk, List.getElem?_eq_getElem hi, k⟩
def spTold (CW CE : Addr) : Sp := fun vs H Q _ => ∃ (t c : Addr) (es : List Addr) (nm : Str) (ws : List Str) (Ss : List (Nat → Bool)) (cs : List Nat), vs = [.ref t, .ref c] ∧ H t = some (.tup (refs es)) ∧ EdsAt CW CE H es nm ws Ss ∧ WOk ws ∧ H c = some (.lst (nts cs)) ∧ (∀ x ∈ cs, x ≤ ws.length) ∧ cs.length ≤ 100 ∧
  ∀ p H', (p = c ∨ H p = none) → Same H H' → H' p = some (.lst (nts (cs.map (tellW Ss)))) → Q (.ref p) H'
abbrev s_told_behind : Stmt := top 27
theorem sc_told_behind : FnScope ["steps", "cuts", "edition", "kernels", "cut"] ["steps", "cuts"] (defScope s_told_behind) := ⟨rfl, rfl, rfl, by decide +kernel, rfl, by decide +kernel, by decide +kernel⟩
theorem take_tell {Ss : List (Nat → Bool)} {i : Nat} {S : Nat → Bool} (h : Ss[i]? = some S) (c : Nat) : tellW (Ss.take (i + 1)) c = ker S (tellW (Ss.take i) c) := by
  rw [List.take_succ, h, Option.toList_some, tell_app]
  rfl
theorem ok_told {CW CE fK : Addr} {fdK : FuncData} (F : Fun K "told_behind" "told_behind" s_told_behind f fd) (M_Edition_kernels : MetOk P w K mg base 1 CE "kernels" fK fdK ["self"] (spKernels CW CE)) : FnOk P w K mg base CX0 2 f fd ["steps", "cuts"] (spTold CW CE) := by
  refine F.ok sc_told_behind (fun vs H Q E h => ?_) (fun cdv A outer s H vs Q E hr h => ?_)
  · obtain ⟨t, c, es, nm, ws, Ss, cs, rfl, _⟩ := h
    rfl
  · obtain ⟨t, c, es, nm, ws, Ss, cs, rfl, ht, he, hw, hc, hcs, hcl, k⟩ := h
    refine ⟨_, (pss_cons (ps_for PassesOwn.never rfl (pi_tup (pv 0)) (pg_name (i := 2) sc_told_behind.nd rfl (by first | exact Or.inl rfl | exact Or.inr rfl)) (pss_cons (ps_set (i := 3) sc_told_behind.nd rfl (by first | exact Or.inl rfl | exact Or.inr rfl) (pe_m0 M_Edition_kernels (hr.mono (by decide)) (pv 2)))
        (pss_one (ps_setLc (i := 1) (own := [("cut", 4)]) (g := gName 4) (tt := tYes) (te := (tOp (rIxL K) (tVar 3) (tVar 4))) rfl sc_told_behind.nd rfl rfl (sw_true rfl rfl rfl (by decide +kernel)) (pi_list (pv 1)) (blkOk_by (own := [("cut", 4)]) (by kernel_rfl)) (fun _ _ _ _ _ => (pg_name (i := 4) sc_told_behind.nd rfl (by first | exact Or.inl rfl | exact Or.inr rfl))) (fun _ _ _ _ _ => pts_nil) (fun _ _ _ _ _ => by exact (pe_ix ix_list (pv 3) (pv 4) (fun _ _ => rfl)))))))
        (pss_one (ps_ret (pv 1)))), ?_⟩
    refine q_forT (ev_var rfl) (st_of ht) (fun i σ' H' => ∃ (p : Addr) (u v x : Option V), σ' = [some (.ref t), some (.ref p), u, v, x] ∧ (p = c ∨ H p = none) ∧ Same H H' ∧ H' p = some (.lst (nts (cs.map (tellW (Ss.take i))))))
      (fun H1 e1 => ⟨c, none, none, none, rfl, .inl rfl, e1, by rw [e1 _ _ hc]; congr 3; exact (List.map_id' cs).symm⟩) (fun i σ' H' _ ⟨p, u, v, x, _, _, e, _⟩ => st_of (e _ _ ht)) ?_ ?_
    · rintro i y σ' H' hy ⟨p, u, v, x, rfl, hp, e, gp⟩
      obtain ⟨a, ha, rfl⟩ := refs_inv hy
      obtain ⟨S, wk, hS, hed⟩ := (he.same e).get ha
      obtain ⟨dx, t', u', v', o1, _⟩ := id hed.ob
      refine ⟨_, rfl, a, dx, _, rfl, o1, ed_no _ _ _ _ (by decide +kernel) (by decide +kernel) (by decide +kernel) (by decide +kernel), a, wk, nm, ws, S, rfl, hed, hw.l1, fun q H1 nq e1 hq => ?_⟩
      have e01 : Same H H1 := Same.trans e e1
      have gp1 := e1 _ _ gp
      refine s_asgL (el_mapL (l := cs.map (tellW (Ss.take i))) (f := fun n : Nat => V.int n) (g := fun n => V.int (ker S n : Nat)) (ev_var rfl) gp1 (by rw [List.length_map]; omega) fun n hn H2 e2 => ?_) fun r H2 nr e2 hr => ⟨r, _, _, _, rfl, .inr (e01.free nr), Same.trans e01 e2, ?_⟩
      · obtain ⟨z, hz, rfl⟩ := List.mem_map.mp hn
        have hz := hcs z hz
        have := tell_le (Ss.take i) z
        exact ev_op (ev_var rfl) (ev_var rfl) (rv_ixL (sq_of (e2 _ _ hq)) (atI_nat (nts_at (kerL_at S (by omega)))))
      · rw [hr]
        unfold nts
        rw [List.map_map, List.map_map]
        congr 2
        refine List.map_congr_left fun z _ => ?_
        show V.int (ker S (tellW (Ss.take i) z) : Nat) = V.int (tellW (Ss.take (i + 1)) z : Nat)
        rw [take_tell hS]
    · rintro σ' H' ⟨p, u, v, x, rfl, hp, e, gp⟩
      refine s_ret (ev_var rfl) fun H1 e1 => k p H1 hp (Same.trans e e1) (e1 _ _ ?_)
      rw [refs_len, he.len, List.take_length] at gp
      exact gp
/-! ### the way to rest -/
def tbl (N : Nat) (T : Nat → Nat) : List Nat := (List.range (N + 1)).map T
theorem tbl_len (N : Nat) (T : Nat → Nat) : (tbl N T).length = N + 1 := by unfold tbl; simp
theorem tbl_at {N c : Nat} (T : Nat → Nat) (h : c ≤ N) : (tbl N T)[c]? = some (T c) := by
  unfold tbl
  rw [List.getElem?_map, List.getElem?_range (by omega)]
  rfl
def spWay : Sp := fun vs H Q _ => ∃ (t : Addr) (N c : Nat) (T : Nat → Nat), vs = [.ref t, .int c] ∧ H t = some (.lst (nts (tbl N T))) ∧ N ≤ 60 ∧ c ≤ N ∧ (∀ x, T x ≤ x) ∧ ∀ p H', H p = none → Same H H' → H' p = some (.lst (nts (course T c))) → Q (.ref p) H'
abbrev s_way_to_rest : Stmt := top 28
theorem sc_way_to_rest : FnScope ["table", "cut", "way"] ["table", "cut"] (defScope s_way_to_rest) := ⟨rfl, rfl, rfl, by decide +kernel, rfl, by decide +kernel, by decide +kernel⟩
theorem ok_way (F : Fun K "way_to_rest" "way_to_rest" s_way_to_rest f fd) : FnOk P w K mg base CX0 1 f fd ["table", "cut"] spWay := by
  refine F.ok sc_way_to_rest (fun vs H Q E h => ?_) (fun cdv A outer s H vs Q E hr h => ?_)
  · obtain ⟨t, N, c, T, rfl, _⟩ := h
    rfl
  · obtain ⟨t, N, c, T, rfl, ht, hN, hc, hT, k⟩ := h
    refine ⟨_, (pss_cons (ps_set (i := 2) sc_way_to_rest.nd rfl (by first | exact Or.inl rfl | exact Or.inr rfl) (pe_lst (pa_cons (pv 1) pa_nil)))
        (pss_cons (ps_while PassesOwn.never (pt_cmpR op_ne (pe_ix ix_list (pv 0) (pe_ix ix_list (pv 2) (pe_un un_neg pe_int) (fun _ _ => rfl)) (fun _ _ => rfl)) (pe_ix ix_list (pv 2) (pe_un un_neg pe_int) (fun _ _ => rfl)) (nomark _)) (pss_one (ps_expr (pe_bm PySem.F.plainAttrs_list PySem.F.slot_list_append PySem.F.type_list_append mt_append (pv 2) (pa_cons (pe_ix ix_list (pv 0) (pe_ix ix_list (pv 2) (pe_un un_neg pe_int) (fun _ _ => rfl)) (fun _ _ => rfl)) pa_nil)))))
        (pss_one (ps_ret (pv 2))))), ?_⟩
    refine q_asgL (el_lst (ea_cons (ev_var rfl) ea_nil) (by show 1 ≤ 100000; decide)) fun p H1 np e1 hp => ?_
    have nt : t ≠ p := ne_of_none ht np
    refine q_while (fun x σ' H' => ∃ (pre : List Nat), σ' = [some (.ref t), some (.int c), some (.ref p)] ∧ H' p = some (.lst (nts (pre ++ [x]))) ∧ course T c = pre ++ course T x ∧ x ≤ c ∧ pre.length + x ≤ c ∧ Same H H') c ⟨[], rfl, hp, rfl, Nat.le_refl _, by simp, e1⟩ ?_
    rintro x σ' H' ⟨pre, rfl, gp, hco, hx, hpl, e⟩
    have last : ∀ H2, Ex H' H2 → Ev (tOp (rIxL K) (tVar 2) (tUn (rU fun i => .int (-i)) (tC (.int 1)))) [some (.ref t), some (.int c), some (.ref p)] H2 (.int x) := fun H2 e2 => ev_op (ev_var rfl) (ev_un ev_c ru_neg) (rv_ixL (sq_of (e2 _ _ gp)) (by unfold nts; rw [List.map_append]; exact atI_last _ _))
    have tab : ∀ H2, Ex H' H2 → Ev (tOp (rIxL K) (tVar 0) (tOp (rIxL K) (tVar 2) (tUn (rU fun i => .int (-i)) (tC (.int 1))))) [some (.ref t), some (.int c), some (.ref p)] H2 (.int (T x : Nat)) := fun H2 e2 => ev_op (ev_var rfl) (last H2 e2) (rv_ixL (sq_of (e2 _ _ (e _ _ ht))) (atI_nat (nts_at (tbl_at T (by omega)))))
    refine ⟨_, et_test (ev_op (tab H' (Ex.refl _)) (last H' (Ex.refl _)) (rv_ne rfl)), fun hb H2 e2 => ⟨_, fun _ _ h => h, ?_⟩, fun hb H2 e2 => ?_⟩
    · have hne : T x ≠ x := fun z => by rw [z] at hb; simp at hb
      have hlt : T x < x := by have := hT x; omega
      refine s_app (e2 _ _ gp) (ev_var rfl) (tab H2 e2) (by rw [nts_len]; simp; omega) fun H3 e3 => ?_
      refine ⟨T x, hlt, pre ++ [x], rfl, ?_, by rw [hco, course_lt hlt]; simp, by omega, by simp; omega, Same.mut (Same.trans (Same.trans e e2) e3) np⟩
      rw [upd_same]
      unfold nts
      simp
    · have heq : T x = x := by
        have : ((T x : Nat) : Int) = (x : Int) := by simpa using hb
        omega
      refine s_ret (ev_var rfl) fun H3 e3 => k p H3 np (Same.trans (Same.trans e e2) e3) ?_
      rw [hco, course_eq (by omega)]
      exact e3 _ _ (e2 _ _ gp)
end
end Lm

namespace Lm
open PySem L2 Evl RZ
/-! ### a walk as it stands in the heap -/
def waF (wk t : Addr) : List (Str × V) := [("work", .ref wk), ("steps", .ref t)]
theorem w_1 : (("steps" : Str) == "work") = false := by decide +kernel
theorem wa_work (wk t : Addr) : (waF wk t).lookup ("work" : Str) = some (.ref wk) := by simp [waF, List.lookup]
theorem wa_steps (wk t : Addr) : (waF wk t).lookup ("steps" : Str) = some (.ref t) := by simp [waF, List.lookup, w_1]
theorem wa_no (wk t : Addr) {m : Str} (h1 : (m == "work") = false) (h2 : (m == "steps") = false) : (waF wk t).lookup m = none := by simp [waF, List.lookup, h1, h2]
theorem putW2 (wk t : Addr) : putF "steps" (.ref t) (p1 wk) = waF wk t := by simp [putF, p1, waF, ne_b w_1]
/-- the walk through the editions of the truths Ss, at a -/
structure WaAt (CW CE CA : Addr) (H : Hp) (a wk : Addr) (nm : Str) (ws : List Str) (Ss : List (Nat → Bool)) : Prop where
  ob : ∃ dx t es, H a = some (.ins CA dx (waF wk t)) ∧ H t = some (.tup (refs es)) ∧ EdsAt CW CE H es nm ws Ss
  wk : WkAt CW H wk nm ws
  ok : WOk ws
theorem WaAt.same {CW CE CA : Addr} {H H' : Hp} {a wk : Addr} {nm : Str} {ws : List Str} {Ss : List (Nat → Bool)} (k : WaAt CW CE CA H a wk nm ws Ss) (e : Same H H') : WaAt CW CE CA H' a wk nm ws Ss := by
  obtain ⟨⟨dx, t, es, h1, h2, h3⟩, h4, h5⟩ := k
  exact ⟨⟨dx, t, es, e _ _ h1, e _ _ h2, h3.same e⟩, h4.same e, h5⟩
theorem WaAt.kp {CW CE CA st : Addr} {H H' : Hp} {a wk : Addr} {nm : Str} {ws : List Str} {Ss : List (Nat → Bool)} {xs : List V} (k : WaAt CW CE CA H a wk nm ws Ss) (e : Kp st H H') (hs : H st = some (.lst xs)) : WaAt CW CE CA H' a wk nm ws Ss := by
  obtain ⟨⟨dx, t, es, h1, h2, h3⟩, h4, h5⟩ := k
  exact ⟨⟨dx, t, es, e _ _ (ne_of h1 hs (by intro z; cases z)) h1, e _ _ (ne_of h2 hs (by intro z; cases z)) h2, h3.kp e hs⟩, h4.kp e hs, h5⟩
structure WaTxt (K : PySem.W.Frag) (C : Addr) : Prop where
  cl : Cls K C
  nK : NoAttr K C "work"
  nS : NoAttr K C "steps"
section
variable {P : Program} {w : World} {K : PySem.W.Frag} {mg : Str → Option Value} {base : Heap} {f : Addr} {fd : FuncData}
def spIsEdOf (CW CE : Addr) : Sp := fun vs H Q _ => ∃ (a wk wk' : Addr) (nm : Str) (ws : List Str) (S : Nat → Bool), vs = [.ref a, .ref wk] ∧ EdAt CW CE H a wk' nm ws S ∧ WkAt CW H wk nm ws ∧ WOk ws ∧ Q (.bl true) H
abbrev s_is_edition_of : Stmt := top 26
theorem sc_is_edition_of : FnScope ["thing", "work"] ["thing", "work"] (defScope s_is_edition_of) := ⟨rfl, rfl, rfl, by decide +kernel, rfl, by decide +kernel, by decide +kernel⟩
theorem ok_is_ed {CW CE fE : Addr} {fdE : FuncData} (F : Fun K "is_edition_of" "is_edition_of" s_is_edition_of f fd) (T : Blt mg) (W : EdTxt K CE) (T' : EdIsi K mg CE) (M_Work_eq : MetOk P w K mg base 1 CW "__eq__" fE fdE ["self", "other"] (spWkEq CW)) : FnOk P w K mg base CX0 2 f fd ["thing", "work"] (spIsEdOf CW CE) := by
  refine F.ok sc_is_edition_of (fun vs H Q E h => ?_) (fun cdv A outer s H vs Q E hr h => ?_)
  · obtain ⟨a, wk, wk', nm, ws, S, rfl, _⟩ := h
    rfl
  · obtain ⟨a, wk, wk', nm, ws, S, rfl, ⟨⟨dy, t', u', v', g1, g2, g3, g4⟩, hw'⟩, hwk, hw, k⟩ := h
    refine ⟨_, (pss_one (ps_ret (pe_and (pe_callB call_isi (by rfl) T.b_isinstance (by decide +kernel) (pa_cons (pv 0) (pa_cons (pe_glob (v := .ref _) rfl T'.g_Edition rfl) pa_nil))) (pe_one (pe_cmpR (M_Work_eq.eq (hr.mono (by decide))) (pe_fld (pv 0) rfl) (pv 1) (nomark _)))))), ?_⟩
    obtain ⟨d1, x1, x2, o1, o2, o3⟩ := id hw'.ob
    obtain ⟨d2, y1, y2, q1, q2, q3⟩ := id hwk.ob
    refine ⟨_, rfl, _, _, _, _, true, rfl, .own CE, .base (.ins g1 W.cl T'.ha T'.hn T'.htk T'.hm), T'.ko, true, rfl, ?_⟩
    refine ⟨_, rfl, a, CE, dy, _, _, rfl, g1, W.cl, W.nK, ed_work _ _ _ _, _, rfl, ?_⟩
    refine ⟨wk', d1, _, wk, d2, _, rfl, rfl, o1, q1, wk', wk, nm, nm, ws, ws, rfl, hw', hwk, hw.ok.wd, hw.ok.wd, ?_⟩
    simpa using k
def spWaInit (CW CE CA : Addr) : Sp := fun vs H Q _ => ∃ (p dx wk a : Addr) (es : List Addr) (nm : Str) (ws : List Str) (Ss : List (Nat → Bool)) (H0 : Hp), vs = [.ref p, .ref wk, .ref a] ∧ H p = some (.ins CA dx []) ∧ H0 p = none ∧ Same H0 H ∧ WkAt CW H0 wk nm ws ∧ WOk ws ∧ SeqAt H0 a (refs es) ∧ EdsAt CW CE H0 es nm ws Ss ∧
  ∀ H', WaAt CW CE CA H' p wk nm ws Ss → Kp p H H' → Q .non H'
abbrev s_Walk_init : Stmt := inClass (top 25) 0
theorem sc_Walk_init : FnScope ["self", "work", "editions", "index", "edition"] ["self", "work", "editions"] (defScope s_Walk_init) := ⟨rfl, rfl, rfl, by decide +kernel, rfl, by decide +kernel, by decide +kernel⟩
theorem Same.kpi {H0 H H' : Hp} {p : Addr} (np : H0 p = none) (e : Same H0 H) (k : Kp p H H') : Same H0 H' := fun b o h => k b o (ne_of_none h np) (e b o h)
theorem ok_wa_init {CW CE CA fR fI : Addr} {fdR fdI : FuncData} (F : Fun K "__init__" "Walk.__init__" s_Walk_init f fd) (T : Blt mg) (W : WaTxt K CA) (D_is_row : DefOk P w K mg base 1 "is_row" fR fdR ["x"] spIsRow)
    (D_is_edition_of : DefOk P w K mg base 2 "is_edition_of" fI fdI ["thing", "work"] (spIsEdOf CW CE)) : FnOk P w K mg base CX0 3 f fd ["self", "work", "editions"] (spWaInit CW CE CA) := by
  refine F.ok sc_Walk_init (fun vs H Q E h => ?_) (fun cdv A outer s H vs Q E hr h => ?_)
  · obtain ⟨p, dx, wk, a, es, nm, ws, Ss, H0, rfl, _⟩ := h
    rfl
  · obtain ⟨p, dx, wk, a, es, nm, ws, Ss, H0, rfl, hp, np, e0, hwk, hw, hq, he, k⟩ := h
    refine ⟨_, (pss_cons (ps_if (pt_not (pt_val (pe_d D_is_row (hr.mono (by decide)) (pa_cons (pv 2) pa_nil)))) (pss_one ps_never) pss_nil)
        (pss_cons (ps_for PassesOwn.never rfl (pi_enumA rfl T.b_enumerate (pa_cons (pv 2) pa_nil)) (pg_tup rfl (pgs_cons (pg_name (i := 3) sc_Walk_init.nd rfl (by first | exact Or.inl rfl | exact Or.inr rfl)) (pgs_cons (pg_name (i := 4) sc_Walk_init.nd rfl (by first | exact Or.inl rfl | exact Or.inr rfl)) pgs_nil))) (pss_one (ps_if (pt_not (pt_val (pe_d D_is_edition_of (hr.mono (by decide)) (pa_cons (pv 4) (pa_cons (pv 1) pa_nil))))) (pss_one ps_never) pss_nil)))
        (pss_cons (ps_fld (pv 0) (pv 1) rfl)
        (pss_one (ps_fld (pv 0) (pe_callTy call_tuple_of (by rfl) T.b_tuple (by decide +kernel) (pa_cons (pv 2) pa_nil)) rfl))))), ?_⟩
    have sq : ∀ H', Same H0 H' → SeqAt H' a (refs es) := fun H' e => hq.elim (fun h => .inl (e _ _ h)) fun h => .inr (e _ _ h)
    have hap : a ≠ p := hq.elim (fun h => ne_of_none h np) fun h => ne_of_none h np
    refine ⟨_, rfl, a, _, rfl, sq _ e0, fun H1 e1 => ⟨_, rfl, ?_⟩⟩
    have e01 : Same H0 H1 := Same.trans e0 e1
    refine ⟨_, rfl, for_enumA (sq _ e01) (fun i σ' H' => ∃ u v : Option V, σ' = [some (.ref p), some (.ref wk), some (.ref a), u, v] ∧ Same H1 H') ⟨none, none, rfl, Same.refl _⟩ (fun i σ' H' _ ⟨u, v, _, e⟩ o ho => e _ _ ho) ?_ ?_⟩
    · rintro i y σ' H' H'' hi ⟨u, v, rfl, e⟩ ⟨T', x1, x2, rfl, nT, rfl, hx1, hx2⟩
      cases (Option.some.inj hx1)
      obtain ⟨b, hb, rfl⟩ := refs_inv hx2
      have e02 : Same H0 (upd H' T' (.tup [.int (i : Nat), .ref b])) := Same.trans (Same.trans e01 e) (Same.upd' nT)
      obtain ⟨S, wk', hS, hed⟩ := (he.same e02).get hb
      refine ⟨T', _, rfl, SqT.of upd_same, rfl, _, _, rfl, _, _, rfl, rfl, ?_⟩
      refine ⟨_, rfl, _, rfl, b, wk, wk', nm, ws, S, rfl, hed, hwk.same e02, hw, _, rfl, ?_⟩
      exact ⟨_, _, rfl, Same.trans e (Same.upd' nT)⟩
    · rintro σ' H' ⟨u, v, rfl, e⟩
      have hp2 := e _ _ (e1 _ _ hp)
      have k2 : Kp p H H' := Kp.of (Same.trans e1 e)
      refine ⟨_, rfl, _, rfl, p, CA, dx, _, rfl, hp2, W.cl, W.nK, by decide, ?_⟩
      rw [put1]
      have k3 : Kp p H (upd H' p (.ins CA dx (p1 wk))) := k2.trans (Kp.upd _ _ _)
      have e3 : Same H0 (upd H' p (.ins CA dx (p1 wk))) := Same.kpi np e0 k3
      refine ⟨_, rfl, a, refs es, rfl, ?_⟩
      rcases sq _ e3 with h | h
      · refine .inl ⟨SqL.of h, fun t nt => ?_⟩
        have htp : t ≠ p := (ne_of_none upd_same nt).symm
        refine ⟨_, rfl, p, CA, dx, _, rfl, (by rw [upd_ne htp.symm]; exact upd_same), W.cl, W.nS, (by show 1 < 1000; decide), ?_⟩
        rw [putW2]
        have k4 : Kp p H (upd (upd (upd H' p (.ins CA dx (p1 wk))) t (.tup (refs es))) p (.ins CA dx (waF wk t))) := (k3.trans (Kp.of (Same.upd' nt))).trans (Kp.upd _ _ _)
        have e4 := Same.kpi np e0 k4
        exact k _ ⟨⟨dx, t, es, upd_same, by rw [upd_ne htp, upd_same], he.same e4⟩, hwk.same e4, hw⟩ k4
      · refine .inr ⟨SqT.of h, ?_⟩
        refine ⟨_, rfl, p, CA, dx, _, rfl, upd_same, W.cl, W.nS, (by show 1 < 1000; decide), ?_⟩
        rw [putW2]
        have k4 : Kp p H (upd (upd H' p (.ins CA dx (p1 wk))) p (.ins CA dx (waF wk a))) := k3.trans (Kp.upd _ _ _)
        have e4 := Same.kpi np e0 k4
        exact k _ ⟨⟨dx, a, es, upd_same, by rw [upd_ne hap]; exact h, he.same e4⟩, hwk.same e4, hw⟩ k4
theorem mkWa {CW CE CA : Addr} {H : Hp} {wk a : Addr} {es : List Addr} {nm : Str} {ws : List Str} {Ss : List (Nat → Bool)} {R : Addr → Hp → Prop} {E : XK} (kw : WkAt CW H wk nm ws) (hw : WOk ws) (hq : SeqAt H a (refs es)) (he : EdsAt CW CE H es nm ws Ss)
    (k : ∀ x H', H x = none → Same H H' → WaAt CW CE CA H' x wk nm ws Ss → R x H') :
    ∀ x dx, H x = none → H dx = none → dx ≠ x → spWaInit CW CE CA (.ref x :: ([.ref wk, .ref a] ++ [])) (upd (upd H dx (.own x)) x (.ins CA dx [])) (fun v H2 => v = .non ∧ R x H2) E := by
  intro x dx nx ndx nex
  have s0 : Same H (upd (upd H dx (.own x)) x (.ins CA dx [])) := fun b o e => by
    rw [upd_ne (ne_of_none e nx), upd_ne (ne_of_none e ndx)]
    exact e
  exact ⟨x, dx, wk, a, es, nm, ws, Ss, H, rfl, upd_same, nx, s0, kw, hw, hq, he, fun H' h' hk => ⟨rfl, k x H' nx (Same.kpi nx s0 hk) h'⟩⟩
end
end Lm

namespace Lm
open PySem L2 Evl RZ
section
variable {K : PySem.W.Frag} {CW CE CA : Addr} {σ : L2.St} {H : Hp} {ta tb te : TE}
theorem ev_wkl {a : Addr} {nm : Str} {ws : List Str} (h : Ev ta σ H (.ref a)) (ha : WkAt CW H a nm ws) (hw : WOk ws) : Ev (tCB (rLenOwn CW (spWkLen CW) E0) (tCons ta tNil)) σ H (.int ws.length) := fun H1 e1 Q k => h H1 e1 _ fun H2 e2 => by
  have ka := ha.same (Same.trans e1 e2)
  obtain ⟨dx, t, d, o1, _⟩ := id ka.ob
  exact ⟨a, dx, _, rfl, o1, a, nm, ws, rfl, ka, ws.length, rfl, by have := hw.l1; omega, k H2 e2⟩
theorem s_par2 {D : Ends} {i j : Nat} {y z : V} (h1 : Ev ta σ H y) (h2 : Ev tb σ H z) (k : ∀ H1, Ex H H1 → D.nx ((σ.set i (some y)).set j (some z)) H1) : tPar i j (tCons ta (tCons tb tNil)) D σ H :=
  h1 H (Ex.refl H) _ fun H1 e1 => h2 H1 e1 _ fun H2 e2 => ⟨y, z, rfl, k H2 (Ex.trans e1 e2)⟩
theorem q_par2 {tz : TS} {D : Ends} {i j : Nat} {y z : V} (h1 : Ev ta σ H y) (h2 : Ev tb σ H z) (k : ∀ H1, Ex H H1 → tz D ((σ.set i (some y)).set j (some z)) H1) : tSeq (tPar i j (tCons ta (tCons tb tNil))) tz D σ H := s_par2 (D := { D with nx := tz D }) h1 h2 k
end
/-- y, z = a pair that is made -/
theorem q_asg2 {K : PySem.W.Frag} {σ : L2.St} {H : Hp} {ta tb : TE} {tz : TS} {D : Ends} {i j : Nat} {y z : V} (h1 : Ev ta σ H y) (h2 : Ev tb σ H z) (k : ∀ H1, Ex H H1 → tz D ((σ.set i (some y)).set j (some z)) H1) : tSeq (tAsg (tTup (tCons ta (tCons tb tNil))) (gTup K 2 (gCons (gName i) (gCons (gName j) gNil)))) tz D σ H :=
  eu_tup (ea_cons h1 (ea_cons h2 ea_nil)) (by show 2 ≤ 100000; decide) H (Ex.refl H) (fun v H1 => gTup K 2 (gCons (gName i) (gCons (gName j) gNil)) v σ H1 (tz D)) fun p H1 np e1 hp => ⟨p, _, rfl, st_of hp, rfl, _, _, rfl, _, _, rfl, rfl, k H1 e1⟩
theorem WaAt.steps {CW CE CA : Addr} {H : Hp} {a wk : Addr} {nm : Str} {ws : List Str} {Ss : List (Nat → Bool)} {K : PySem.W.Frag} (W : WaTxt K CA) (k : WaAt CW CE CA H a wk nm ws Ss) : True := trivial
section
variable {P : Program} {w : World} {K : PySem.W.Frag} {mg : Str → Option Value} {base : Heap} {f : Addr} {fd : FuncData}
def spWaTable (CW CE CA : Addr) : Sp := fun vs H Q _ => ∃ (a wk : Addr) (nm : Str) (ws : List Str) (Ss : List (Nat → Bool)), vs = [.ref a] ∧ WaAt CW CE CA H a wk nm ws Ss ∧ ∀ p H', H p = none → Same H H' → H' p = some (.lst (nts (tbl ws.length (tellW Ss)))) → Q (.ref p) H'
abbrev s_Walk_table : Stmt := inClass (top 25) 2
theorem sc_Walk_table : FnScope ["self"] ["self"] (defScope s_Walk_table) := ⟨rfl, rfl, rfl, by decide +kernel, rfl, by decide +kernel, by decide +kernel⟩
theorem ok_wa_table {CW CE CA fT fL : Addr} {fdT fdL : FuncData} (F : Fun K "table" "Walk.table" s_Walk_table f fd) (T : Blt mg) (W : WaTxt K CA) (D_told_behind : DefOk P w K mg base 2 "told_behind" fT fdT ["steps", "cuts"] (spTold CW CE))
    (M_Work_len : MetOk P w K mg base 1 CW "__len__" fL fdL ["self"] (spWkLen CW)) : FnOk P w K mg base CX0 3 f fd ["self"] (spWaTable CW CE CA) := by
  refine F.ok sc_Walk_table (fun vs H Q E h => ?_) (fun cdv A outer s H vs Q E hr h => ?_)
  · obtain ⟨a, wk, nm, ws, Ss, rfl, _⟩ := h
    rfl
  · obtain ⟨a, wk, nm, ws, Ss, rfl, ha, k⟩ := h
    obtain ⟨dx, t, es, h1, h2, h3⟩ := id ha.ob
    refine ⟨_, (pss_one (ps_ret (pe_d D_told_behind (hr.mono (by decide)) (pa_cons (pe_fld (pv 0) rfl) (pa_cons (pe_listRg rfl rfl T.b_list (prg_1 rfl T.b_range (pe_op op_add (pe_callB (M_Work_len.len (hr.mono (by decide))) (by rfl) T.b_len PySem.boot_len (pa_cons (pe_fld (pv 0) rfl) pa_nil)) pe_int))) pa_nil))))), ?_⟩
    refine ⟨_, rfl, a, CA, dx, _, _, rfl, h1, W.cl, W.nS, wa_steps _ _, ?_⟩
    have hl := ha.ok.l1
    have ew : Ev (tFld K (tVar 0) "work") [some (.ref a)] H (.ref wk) := fun H2 e2 Q q => ⟨_, rfl, a, CA, dx, _, _, rfl, e2 _ _ h1, W.cl, W.nK, wa_work _ _, q H2 (Ex.refl _)⟩
    refine el_rg (n := (ws.length : Int) + 1) (ev_op (ev_wkl ew ha.wk ha.ok) ev_c rv_I0) ⟨by omega, by omega⟩ H (Ex.refl _) _ fun c H1 nc e1 hc => ?_
    have e : ((ws.length : Int) + 1).toNat = ws.length + 1 := by omega
    rw [e] at hc
    refine ⟨t, c, es, nm, ws, Ss, List.range (ws.length + 1), rfl, e1 _ _ h2, h3.same e1, ha.ok, hc, fun x hx => by have := List.mem_range.mp hx; omega, by rw [List.length_range]; omega, fun p H' hp e' h' => k p H' ?_ (Same.trans e1 e') h'⟩
    rcases hp with rfl | hp
    · exact nc
    · exact Same.free e1 hp
/-- the table of a walk -/
theorem go_table {CW CE CA : Addr} {H : Hp} {a wk : Addr} {nm : Str} {ws : List Str} {Ss : List (Nat → Bool)} {σ : L2.St} {ta : TE} (ha : WaAt CW CE CA H a wk nm ws Ss) (h : Ev ta σ H (.ref a)) : EvL (tMeth CA "table" (spWaTable CW CE CA) [] E0 ta tNil) σ H (nts (tbl ws.length (tellW Ss))) := fun H1 e1 Q q => h H1 e1 _ fun H2 e2 => by
  have ka := ha.same (Same.trans e1 e2)
  obtain ⟨dx, t, es, o1, _⟩ := id ka.ob
  exact ⟨a, dx, _, rfl, o1, wa_no _ _ (by decide +kernel) (by decide +kernel), a, wk, nm, ws, Ss, rfl, ka, fun p H' np e h => q p H' (fresh_back e2 np) (Ex.trans e2 e) h⟩
/-- the way of a cut, by the table -/
theorem go_way {N c : Nat} {T : Nat → Nat} {σ : L2.St} {H : Hp} {ta tb : TE} (hT : ∀ x, T x ≤ x) (hN : N ≤ 60) (hc : c ≤ N) (h : EvL ta σ H (nts (tbl N T))) (h2 : Ev tb σ H (.int c)) : EvL (tCall spWay [] E0 (tCons ta (tCons tb tNil))) σ H (nts (course T c)) := fun H1 e1 Q q =>
  h H1 e1 _ fun t H2 nt e2 ht => h2 H2 (Ex.trans e1 e2) _ fun H3 e3 => ⟨t, N, c, T, rfl, e3 _ _ ht, hN, hc, hT, fun p H' np e h => q p H' (fresh_back (Ex.trans e2 e3) np) (Ex.trans (Ex.trans e2 e3) e) h⟩
theorem go_wayV {N c : Nat} {T : Nat → Nat} {σ : L2.St} {H : Hp} {ta tb : TE} {t : Addr} (hT : ∀ x, T x ≤ x) (hN : N ≤ 60) (hc : c ≤ N) (h : Ev ta σ H (.ref t)) (ht : H t = some (.lst (nts (tbl N T)))) (h2 : Ev tb σ H (.int c)) : EvL (tCall spWay [] E0 (tCons ta (tCons tb tNil))) σ H (nts (course T c)) := fun H1 e1 Q q =>
  h H1 e1 _ fun H2 e2 => h2 H2 (Ex.trans e1 e2) _ fun H3 e3 => ⟨t, N, c, T, rfl, (Ex.trans e1 (Ex.trans e2 e3)) _ _ ht, hN, hc, hT, fun p H' np e h => q p H' (fresh_back (Ex.trans e2 e3) np) (Ex.trans (Ex.trans e2 e3) e) h⟩
theorem ev_lenN' {K : PySem.W.Frag} {σ : L2.St} {H : Hp} {ta : TE} {l : List Nat} (h : EvL ta σ H (nts l)) : Ev (tCB (rLenS K) (tCons ta tNil)) σ H (.int (l.length : Int)) := ev_is (ev_lenN h) (by rw [nts_len])
theorem at_last (pre : List Nat) (x : Nat) : atI (nts (pre ++ [x])) (-1) = some (.int x) := by
  unfold nts
  rw [List.map_append]
  exact atI_last _ _
/-- require_cut, passed -/
theorem q_reqcut {CW wk : Addr} {n : Nat} {nm : Str} {ws : List Str} {σ : L2.St} {H : Hp} {ta tb : TE} {tz : TS} {D : Ends} (h1 : Ev ta σ H (.int n)) (h2 : Ev tb σ H (.ref wk)) (hk : WkAt CW H wk nm ws) (hl : ws.length ≤ 60) (hn : n ≤ ws.length) (k : ∀ H1, Ex H H1 → tz D σ H1) : tSeq (tDrop (tCall (spReqCut CW) [] E0 (tCons ta (tCons tb tNil)))) tz D σ H :=
  h1 H (Ex.refl _) _ fun H1 e1 => h2 H1 e1 _ fun H2 e2 => ⟨wk, n, nm, ws, rfl, hk.same (Ex.trans e1 e2), hl, hn, k H2 (Ex.trans e1 e2)⟩
def spWaRest (CW CE CA : Addr) : Sp := fun vs H Q _ => ∃ (a wk : Addr) (nm : Str) (ws : List Str) (Ss : List (Nat → Bool)) (c : Nat), vs = [.ref a, .int c] ∧ WaAt CW CE CA H a wk nm ws Ss ∧ c ≤ ws.length ∧ ∀ H', Same H H' → Q (.int (restT (tellW Ss) c : Nat)) H'
def spWaTurns (CW CE CA : Addr) : Sp := fun vs H Q _ => ∃ (a wk : Addr) (nm : Str) (ws : List Str) (Ss : List (Nat → Bool)) (c : Nat), vs = [.ref a, .int c] ∧ WaAt CW CE CA H a wk nm ws Ss ∧ c ≤ ws.length ∧ ∀ H', Same H H' → Q (.int (turnsT (tellW Ss) c : Nat)) H'
abbrev s_Walk_turns : Stmt := inClass (top 25) 7
theorem sc_Walk_turns : FnScope ["self", "cut"] ["self", "cut"] (defScope s_Walk_turns) := ⟨rfl, rfl, rfl, by decide +kernel, rfl, by decide +kernel, by decide +kernel⟩
theorem ok_wa_turns {CW CE CA fC fW fT : Addr} {fdC fdW fdT : FuncData} (F : Fun K "turns" "Walk.turns" s_Walk_turns f fd) (T : Blt mg) (W : WaTxt K CA) (D_require_cut : DefOk P w K mg base 3 "require_cut" fC fdC ["cut", "work"] (spReqCut CW)) (D_way_to_rest : DefOk P w K mg base 1 "way_to_rest" fW fdW ["table", "cut"] spWay)
    (M_Walk_table : MetOk P w K mg base 3 CA "table" fT fdT ["self"] (spWaTable CW CE CA)) : FnOk P w K mg base CX0 4 f fd ["self", "cut"] (spWaTurns CW CE CA) := by
  refine F.ok sc_Walk_turns (fun vs H Q E h => ?_) (fun cdv A outer s H vs Q E hr h => ?_)
  · obtain ⟨a, wk, nm, ws, Ss, c, rfl, _⟩ := h
    rfl
  · obtain ⟨a, wk, nm, ws, Ss, c, rfl, ha, hc, k⟩ := h
    obtain ⟨dx, t, es, h1, h2, h3⟩ := id ha.ob
    refine ⟨_, (pss_cons (ps_expr (pe_d D_require_cut (hr.mono (by decide)) (pa_cons (pv 1) (pa_cons (pe_fld (pv 0) rfl) pa_nil))))
        (pss_one (ps_ret (pe_op op_sub (pe_callB call_len_seq (by rfl) T.b_len PySem.boot_len (pa_cons (pe_d D_way_to_rest (hr.mono (by decide)) (pa_cons (pe_m0 M_Walk_table (hr.mono (by decide)) (pv 0)) (pa_cons (pv 1) pa_nil))) pa_nil)) pe_int)))), ?_⟩
    have ew : Ev (tFld K (tVar 0) "work") [some (.ref a), some (.int c)] H (.ref wk) := fun H2 e2 Q q => ⟨_, rfl, a, CA, dx, _, _, rfl, e2 _ _ h1, W.cl, W.nK, wa_work _ _, q H2 (Ex.refl _)⟩
    refine q_reqcut (ev_var rfl) ew ha.wk ha.ok.l1 hc fun H1 e1 => ?_
    have ew := go_way (tell_le Ss) ha.ok.l1 hc (go_table (ta := tVar 0) (σ := [some (.ref a), some (.int c)]) (ha.same e1) (ev_var rfl)) (ev_var (i := 1) rfl)
    refine s_ret (ev_is (ev_op (ev_lenN' (K := K) ew) ev_c rv_I0) ?_) fun H2 e2 => k H2 (Same.trans e1 e2)
    rw [course_len]
    congr 1
    omega
def spWaLong (CW CE CA : Addr) : Sp := fun vs H Q _ => ∃ (a wk : Addr) (nm : Str) (ws : List Str) (Ss : List (Nat → Bool)), vs = [.ref a] ∧ WaAt CW CE CA H a wk nm ws Ss ∧ ∀ p H', H p = none → Same H H' → H' p = some (.tup [.int ((bestF (turnsT (tellW Ss)) (ws.length + 1)).1 : Nat), .int ((bestF (turnsT (tellW Ss)) (ws.length + 1)).2 : Nat)]) → Q (.ref p) H'
end
end Lm

namespace Lm
open PySem L2 Evl RZ
/-! ### comprehensions that draw -/
def KpS (st D : Addr) (H H' : Hp) : Prop := ∀ b o, H b = some o → (b = st ∨ b = D → ∀ xs, o ≠ .lst xs) → H' b = some o
theorem kps_of {st D : Addr} {H H' : Hp} {xs : List V} (e : Kp st H H') (h : H st = some (.lst xs)) : KpS st D H H' := fun b o hb hn => e b o (fun z => by
  subst z
  rw [h] at hb
  exact hn (.inl rfl) _ (Option.some.inj hb).symm) hb
theorem kps_mut {st D : Addr} {H : Hp} {xs : List V} {o' : HO} (h : H D = some (.lst xs)) : KpS st D H (upd H D o') := fun b o hb hn => by
  rw [upd_ne]
  · exact hb
  · intro z
    subst z
    rw [h] at hb
    exact hn (.inr rfl) _ (Option.some.inj hb).symm
theorem KpS.lst {st D : Addr} {H H' : Hp} {l : Addr} {o : HO} (e : KpS st D H H') (h1 : l ≠ st) (h2 : l ≠ D) (h : H l = some o) : H' l = some o := e _ _ h fun z => by
  rcases z with z | z
  · exact absurd z h1
  · exact absurd z h2
theorem WkAt.kps {C st D : Addr} {H H' : Hp} {a : Addr} {nm : Str} {ws : List Str} (k : WkAt C H a nm ws) (e : KpS st D H H') : WkAt C H' a nm ws := by
  obtain ⟨⟨dx, t, d, h1, h2, h3⟩⟩ := k
  exact ⟨⟨dx, t, d, e _ _ h1 (by intro _ xs z; cases z), e _ _ h2 (by intro _ xs z; cases z), e _ _ h3 (by intro _ xs z; cases z)⟩⟩
theorem EdAt.kps {CW CE st D : Addr} {H H' : Hp} {a wk : Addr} {nm : Str} {ws : List Str} {S : Nat → Bool} (k : EdAt CW CE H a wk nm ws S) (e : KpS st D H H') : EdAt CW CE H' a wk nm ws S := by
  obtain ⟨⟨dx, t, u, v, h1, h2, h3, h4⟩, h5⟩ := k
  exact ⟨⟨dx, t, u, v, e _ _ h1 (by intro _ xs z; cases z), e _ _ h2 (by intro _ xs z; cases z), e _ _ h3 (by intro _ xs z; cases z), e _ _ h4 (by intro _ xs z; cases z)⟩, h5.kps e⟩
theorem lc_drawR {st c D : Addr} {σ : L2.St} {te : TE} {j n : Nat} {H1 : Hp} {Qd : Hp → Prop} (Pr : Nat → V → Hp → Prop) (S0 : StAt H1 st c) (nD : H1 D = none) (hn : n ≤ 1000) (stab : ∀ i v H H', Pr i v H → KpS st D H H' → Pr i v H')
    (turn : ∀ i H', i < n → StAt H' st c → Kp st H1 H' → (∃ acc, H' D = some (.lst acc)) → ∀ Q : VK, (∀ v H2, Pr i v H2 → StAt H2 st c → Kp st H' H2 → Q v H2) → te ((wipe σ [j]).set j (some (.int (i : Nat)))) H' Q)
    (done : ∀ vs H', vs.length = n → (∀ i v, vs[i]? = some v → Pr i v H') → StAt H' st c → Kp st H1 H' → H' D = some (.lst vs) → Qd H') :
    ∃ W : Nat → Nat → Hp → Prop, (∃ m, W 0 m (upd H1 D (.lst []))) ∧ ∀ i m H, W i m H → ((Itr 0 n).stop i H ∧ Qd H) ∨ ((Itr 0 n).go i H ∧ ∃ Nx : Hp → Prop, (∀ H', Nx H' → ∃ m', m' < m ∧ W (i + 1) m' H') ∧ ∀ x H', (Itr 0 n).yld i H x H' → gName j x (wipe σ [j]) H' fun σ2 H2 => wipe σ2 [j] = wipe σ [j] ∧ tYes σ2 H2 fun b H3 =>
      if b = true then te σ2 H3 fun y H4 => ∃ acc, H4 D = some (.lst acc) ∧ acc.length < sizeLine ∧ Nx (upd H4 D (.lst (acc ++ [y]))) else Nx H3) := by
  have hDs := (S0.of_new nD).1
  have hDc := (S0.of_new nD).2
  refine lc_range (lo := 0) (fun i H' => StAt H' st c ∧ Kp st H1 H' ∧ ∃ vs : List V, vs.length = i ∧ H' D = some (.lst vs) ∧ ∀ k v, vs[k]? = some v → Pr k v H') ⟨S0.same (Same.upd' nD), Kp.of (Same.upd' nD), [], rfl, upd_same, fun k v h => by simp at h⟩ ?_ ?_
  · rintro i H' hi ⟨S', e, vs, hl, hD, hv⟩
    have z : (0 : Int) + (i : Int) = (i : Int) := by omega
    rw [z]
    refine ⟨wipe1 σ j _, ?_⟩
    obtain ⟨xs1, hst1⟩ := S'.neL
    refine turn i H' hi S' e ⟨_, hD⟩ _ fun v H2 hp S2 e2 => ?_
    have hD2 := e2 _ _ hDs hD
    refine ⟨vs, hD2, small1000 (by omega), S2.mut hDs hDc, Kp.mut (e.trans e2) nD, vs ++ [v], by simp [hl], upd_same, fun k x hx => ?_⟩
    have km : KpS st D H2 (upd H2 D (.lst (vs ++ [v]))) := kps_mut hD2
    rcases Nat.lt_or_ge k vs.length with hk | hk
    · rw [List.getElem?_append_left hk] at hx
      exact stab _ _ _ _ (stab _ _ _ _ (hv k x hx) (kps_of e2 hst1)) km
    · rw [List.getElem?_append_right hk] at hx
      cases q : k - vs.length with
      | zero =>
        rw [q] at hx
        cases hx
        have : k = i := by omega
        rw [this]
        exact stab _ _ _ _ hp km
      | succ m => rw [q] at hx; simp at hx
  · rintro H' ⟨S', e, vs, hl, hD, hv⟩
    exact done vs H' hl hv S' e hD
theorem lc_drawL {K : PySem.W.Frag} {st c D a : Addr} {xs : List V} {σ : L2.St} {te : TE} {j : Nat} {H1 : Hp} {Qd : Hp → Prop} (Pr : Nat → V → Hp → Prop) (S0 : StAt H1 st c) (nD : H1 D = none) (has : a ≠ st) (ha : H1 a = some (.lst xs)) (hn : xs.length ≤ 1000) (stab : ∀ i v H H', Pr i v H → KpS st D H H' → Pr i v H')
    (turn : ∀ i x H', xs[i]? = some x → StAt H' st c → Kp st H1 H' → (∃ acc, H' D = some (.lst acc)) → ∀ Q : VK, (∀ v H2, Pr i v H2 → StAt H2 st c → Kp st H' H2 → Q v H2) → te ((wipe σ [j]).set j (some x)) H' Q)
    (done : ∀ vs H', vs.length = xs.length → (∀ i v, vs[i]? = some v → Pr i v H') → StAt H' st c → Kp st H1 H' → H' D = some (.lst vs) → Qd H') :
    ∃ W : Nat → Nat → Hp → Prop, (∃ m, W 0 m (upd H1 D (.lst []))) ∧ ∀ i m H, W i m H → ((Itl K a).stop i H ∧ Qd H) ∨ ((Itl K a).go i H ∧ ∃ Nx : Hp → Prop, (∀ H', Nx H' → ∃ m', m' < m ∧ W (i + 1) m' H') ∧ ∀ x H', (Itl K a).yld i H x H' → gName j x (wipe σ [j]) H' fun σ2 H2 => wipe σ2 [j] = wipe σ [j] ∧ tYes σ2 H2 fun b H3 =>
      if b = true then te σ2 H3 fun y H4 => ∃ acc, H4 D = some (.lst acc) ∧ acc.length < sizeLine ∧ Nx (upd H4 D (.lst (acc ++ [y]))) else Nx H3) := by
  have hDs := (S0.of_new nD).1
  have hDc := (S0.of_new nD).2
  refine lc_list (K := K) (a := a) (xs := xs) (fun i H' => StAt H' st c ∧ Kp st H1 H' ∧ ∃ vs : List V, vs.length = i ∧ H' D = some (.lst vs) ∧ ∀ k v, vs[k]? = some v → Pr k v H') ⟨S0.same (Same.upd' nD), Kp.of (Same.upd' nD), [], rfl, upd_same, fun k v h => by simp at h⟩ (fun i H' _ p => SqL.of (p.2.1 _ _ has ha)) ?_ ?_
  · rintro i x H' hx ⟨S', e, vs, hl, hD, hv⟩
    have hi := (List.getElem?_eq_some_iff.mp hx).1
    refine ⟨wipe1 σ j _, ?_⟩
    obtain ⟨xs1, hst1⟩ := S'.neL
    refine turn i x H' hx S' e ⟨_, hD⟩ _ fun v H2 hp S2 e2 => ?_
    have hD2 := e2 _ _ hDs hD
    refine ⟨vs, hD2, small1000 (by omega), S2.mut hDs hDc, Kp.mut (e.trans e2) nD, vs ++ [v], by simp [hl], upd_same, fun k y hy => ?_⟩
    have km : KpS st D H2 (upd H2 D (.lst (vs ++ [v]))) := kps_mut hD2
    rcases Nat.lt_or_ge k vs.length with hk | hk
    · rw [List.getElem?_append_left hk] at hy
      exact stab _ _ _ _ (stab _ _ _ _ (hv k y hy) (kps_of e2 hst1)) km
    · rw [List.getElem?_append_right hk] at hy
      cases q : k - vs.length with
      | zero =>
        rw [q] at hy
        cases hy
        have : k = i := by omega
        rw [this]
        exact stab _ _ _ _ hp km
      | succ m => rw [q] at hy; simp at hy
  · rintro H' ⟨S', e, vs, hl, hD, hv⟩
    exact done vs H' hl hv S' e hD
theorem mem_ix {α : Type} {l : List α} {x : α} (h : x ∈ l) : ∃ i : Nat, l[i]? = some x := by
  obtain ⟨i, hi, e⟩ := List.mem_iff_getElem.mp h
  exact ⟨i, by rw [List.getElem?_eq_getElem hi, e]⟩
/-- each of a kind: as many things -/
theorem pick_each {α : Type} {f : α → V} {Pz : α → Prop} : ∀ {vs : List V}, (∀ v ∈ vs, ∃ z, v = f z ∧ Pz z) → ∃ zs : List α, vs = zs.map f ∧ ∀ z ∈ zs, Pz z
  | [], _ => ⟨[], rfl, fun z h => (List.not_mem_nil h).elim⟩
  | v :: r, h => by
    obtain ⟨z, e, hz⟩ := h v List.mem_cons_self
    obtain ⟨zs, e2, hzs⟩ := pick_each (vs := r) fun x hx => h x (List.mem_cons_of_mem _ hx)
    refine ⟨z :: zs, by rw [e, e2]; rfl, fun y hy => ?_⟩
    rcases List.mem_cons.mp hy with q | q
    · rw [q]; exact hz
    · exact hzs y q
/-- the rows of numbers: a list of lists, with the truths -/
structure RowsAt (H : Hp) (st : Addr) (N : Nat) (p : Addr) (ps : List (Addr × (Nat → Bool))) : Prop where
  ne : p ≠ st
  at_ : H p = some (.lst (ps.map fun z => V.ref z.1))
  el : ∀ z ∈ ps, z.1 ≠ st ∧ z.1 ≠ p ∧ H z.1 = some (.lst (nts (idx N z.2)))
theorem RowsAt.kp {H H' : Hp} {st p : Addr} {N : Nat} {ps : List (Addr × (Nat → Bool))} (h : RowsAt H st N p ps) (e : Kp st H H') : RowsAt H' st N p ps :=
  ⟨h.ne, e _ _ h.ne h.at_, fun z hz => let ⟨a, b, c⟩ := h.el z hz; ⟨a, b, e _ _ a c⟩⟩
section
variable {P : Program} {w : World} {K : PySem.W.Frag} {mg : Str → Option Value} {base : Heap} {f : Addr} {fd : FuncData}
def spRows : Sp := fun vs H Q _ => ∃ (st c : Addr) (N m : Nat), vs = [.ref st, .int N, .int m] ∧ StAt H st c ∧ N ≤ 60 ∧ m ≤ 60 ∧ ∀ p ps H', H p = none → ps.length ≤ m → StAt H' st c → Kp st H H' → RowsAt H' st N p ps → Q (.ref p) H'
abbrev s_rows : Stmt := top 45
theorem sc_rows : FnScope ["_law_state", "_law_many_here", "_law_most", "_law_found", "_law_k"] ["_law_state", "_law_many_here", "_law_most"] (defScope s_rows) := ⟨rfl, rfl, rfl, by decide +kernel, rfl, by decide +kernel, by decide +kernel⟩
theorem ok_rows {fT fK : Addr} {fdT fdK : FuncData} (F : Fun K "_law_rows" "_law_rows" s_rows f fd) (T : Blt mg) (D_take : DefOk P w K mg base 2 "_law_take" fT fdT ["_law_state", "_law_many_here"] spTake) (D_kept : DefOk P w K mg base 4 "_law_kept" fK fdK ["_law_state", "_law_many_here"] spKept) :
    FnOk P w K mg base CX0 5 f fd ["_law_state", "_law_many_here", "_law_most"] spRows := by
  refine F.ok sc_rows (fun vs H Q E h => ?_) (fun cdv A outer s H vs Q E hr h => ?_)
  · obtain ⟨st, c, N, m, rfl, _⟩ := h
    rfl
  · obtain ⟨st, c, N, m, rfl, S, hN, hm, k⟩ := h
    refine ⟨_, (pss_cons (ps_setLc (i := 3) (own := [("_law_k", 4)]) (g := gName 4) (tt := tYes) (te := (tCall spKept [] E0 (tCons (tVar 0) (tCons (tVar 1) tNil)))) rfl sc_rows.nd rfl rfl (sw_true rfl rfl rfl (by decide +kernel)) (pi_range1 rfl T.b_range (pa_cons (pe_d D_take (hr.mono (by decide)) (pa_cons (pv 0) (pa_cons (pe_op op_add (pv 2) pe_int) pa_nil))) pa_nil)) (blkOk_by (own := [("_law_k", 4)]) (by kernel_rfl)) (fun _ _ _ _ _ => (pg_name (i := 4) sc_rows.nd rfl (by first | exact Or.inl rfl | exact Or.inr rfl))) (fun _ _ _ _ _ => pts_nil) (fun _ _ _ _ _ => by exact (pe_d D_kept (hr.mono (by decide)) (pa_cons (pv 0) (pa_cons (pv 1) pa_nil)))))
        (pss_cons (ps_if (PW.pt (pw_and (pt_cmpR op_gt (pe_callB call_len_seq (by rfl) T.b_len PySem.boot_len (pa_cons (pv 3) pa_nil)) pe_int (nomark _)) (pw_and1 (pt_cmpR op_eq (pe_d D_take (hr.mono (by decide)) (pa_cons (pv 0) (pa_cons pe_int pa_nil))) pe_int (nomark _))))) (pss_one (ps_asg (pe_callTy call_list_of (by rfl) T.b_list (by decide +kernel) (pa_cons (pe_ix ix_list (pv 3) pe_int (fun _ _ => rfl)) pa_nil)) (pg_sub (pv 3) (pe_d D_take (hr.mono (by decide)) (pa_cons (pv 0) (pa_cons (pe_callB call_len_seq (by rfl) T.b_len PySem.boot_len (pa_cons (pv 3) pa_nil)) pa_nil))) set_list))) pss_nil)
        (pss_one (ps_ret (pv 3))))), ?_⟩
    refine ⟨_, rfl, _, rfl, _, _, rfl, rfl, st, c, _, rfl, S, by omega, by omega, fun d H1 d0 d1 S1 e1 => ?_⟩
    obtain ⟨n, rfl⟩ : ∃ n : Nat, d = (n : Int) := ⟨d.toNat, by omega⟩
    refine ⟨_, rfl, by omega, by omega, fun D nD => ?_⟩
    have nDH : H D = none := e1.free (S1.of_new nD).1 nD
    have hDs := (S1.of_new nD).1
    have hDc := (S1.of_new nD).2
    refine lc_drawR (c := c) (st := st) (n := ((n : Int)).toNat) (fun i v H' => ∃ z : Addr × (Nat → Bool), v = .ref z.1 ∧ z.1 ≠ st ∧ z.1 ≠ D ∧ H' z.1 = some (.lst (nts (idx N z.2)))) S1 nD (by omega) (fun i v H2 H3 ⟨z, q1, q2, q3, q4⟩ e => ⟨z, q1, q2, q3, e.lst q2 q3 q4⟩) ?_ ?_
    · rintro i H' hi S' e ⟨acc, hD⟩ Q' kQ
      refine ⟨_, rfl, _, rfl, st, c, N, rfl, S', hN, fun p B H2 np S2 e2 hp => kQ _ _ ⟨(p, B), rfl, (S'.of_new np).1, (ne_of_none hD np).symm, hp⟩ S2 e2⟩
    · rintro vs H' hl hv S' e hD
      obtain ⟨ps, rfl, hps⟩ := pick_each (vs := vs) (f := fun z : Addr × (Nat → Bool) => V.ref z.1) (Pz := fun z => z.1 ≠ st ∧ z.1 ≠ D ∧ H' z.1 = some (.lst (nts (idx N z.2)))) fun v hv' => by
        obtain ⟨i, hi⟩ := mem_ix hv'
        obtain ⟨z, q1, q2⟩ := hv i v hi
        exact ⟨z, q1, q2⟩
      rw [List.length_map] at hl
      have e2 : Kp st H H' := e1.trans e
      have hR : RowsAt H' st N D ps := ⟨hDs, hD, hps⟩
      have fin : ∀ (H2 : Hp) ps', ps'.length ≤ m → StAt H2 st c → Kp st H H2 → RowsAt H2 st N D ps' → tRet (tVar 3) { nx := fun _ H' => Q .non H', rt := Q } [some (.ref st), some (.int N), some (.int m), some (.ref D), none] H2 := fun H2 ps' a b c' d => ⟨_, rfl, k D ps' H2 nDH a b c' d⟩
      refine ⟨_, rfl, D, _, rfl, .inl (SqL.of hD), ?_⟩
      obtain ⟨H2, x2, hH⟩ : ∃ H2, Ex H' H2 ∧ H2 = H' := ⟨_, Ex.refl _, rfl⟩
      rw [← hH]
      have S2 := S'.same x2
      have k2 : Kp st H H2 := e2.trans (Kp.of x2)
      have hR2 := hR.kp (Kp.of x2)
      refine ⟨_, _, rfl, rfl, _, rfl, ite2 (fun h1 => ?_) (fun _ => ?_)⟩
      · have h1 : 1 < ps.length := by have := of_decide_eq_true h1; rw [List.length_map] at this; omega
        refine ⟨_, rfl, st, c, _, rfl, S2, by decide, by decide, fun d3 H3 d30 d31 S3 e3 => ?_⟩
        have k3 := k2.trans e3
        have hR3 := hR2.kp e3
        refine ⟨rfl, _, rfl, ite2 (fun _ => ?_) (fun _ => ?_)⟩
        · obtain ⟨z0, hz0⟩ : ∃ z, ps[0]? = some z := ⟨_, List.getElem?_eq_getElem (by omega)⟩
          obtain ⟨z1, z2, z3⟩ := hR3.el z0 (List.mem_of_getElem? hz0)
          refine ⟨_, rfl, D, _, _, _, rfl, rfl, SqL.of hR3.at_, atI_nat (j := 0) (by rw [List.getElem?_map, hz0]; rfl), z0.1, _, rfl, .inl (SqL.of z3), fun q nq => ?_⟩
          have hqs := (S3.of_new nq).1
          have hqD : q ≠ D := (ne_of_none hR3.at_ nq).symm
          have sq := Same.upd' nq (o := .lst (nts (idx N z0.2)))
          have hq : (upd H3 q (.lst (nts (idx N z0.2)))) q = some (.lst (nts (idx N z0.2))) := upd_same
          generalize upd H3 q (.lst (nts (idx N z0.2))) = H4 at sq hq
          have S4 := S3.same sq
          have k4 := k3.trans (Kp.of sq)
          have hR4 := hR3.kp (Kp.of sq)
          refine ⟨_, rfl, _, rfl, ?_⟩
          refine ⟨_, rfl, D, _, rfl, .inl (SqL.of hR4.at_), ?_⟩
          refine ⟨st, c, _, rfl, S4, by rw [List.length_map]; omega, by rw [List.length_map]; omega, fun d6 H6 d60 d61 S6 e6 => ?_⟩
          have k6 := k4.trans e6
          have hR6 := hR4.kp e6
          rw [List.length_map] at d61
          obtain ⟨x, rfl⟩ : ∃ x : Nat, d6 = (x : Int) := ⟨d6.toNat, by omega⟩
          have hq6 := e6 _ _ hqs hq
          refine ⟨D, _, _, x, rfl, rfl, hR6.at_, ixN_nat (by rw [List.length_map]; omega), ?_⟩
          rw [show ((ps.map fun z => V.ref z.1).set x (.ref q)) = (ps.set x (q, z0.2)).map fun z => V.ref z.1 from by rw [List.map_set]]
          refine fin _ (ps.set x (q, z0.2)) (by rw [List.length_set]; omega) (S6.mut hDs hDc) (Kp.mut k6 nDH) ⟨hDs, upd_same, fun z hz => ?_⟩
          rcases List.mem_or_eq_of_mem_set hz with hz | rfl
          · obtain ⟨a, b, c'⟩ := hR6.el z hz
            exact ⟨a, b, by rw [upd_ne b]; exact c'⟩
          · exact ⟨hqs, hqD, by rw [upd_ne hqD]; exact hq6⟩
        · exact fin _ ps (by omega) S3 k3 hR3
      · exact fin _ ps (by omega) S2 k2 hR2
end
end Lm

namespace Lm
open PySem L2 Evl RZ
/-! ### lists of numbers, of truths, of lists of numbers: compared -/
def dI (l : List Nat) : PyData := .list (l.map fun n : Nat => PyData.int n)
def dB (l : List Bool) : PyData := .list (l.map PyData.bool)
def dLL (l : List (List Nat)) : PyData := .list (l.map dI)
section
variable {K : PySem.W.Frag} {H : Hp}
theorem dpAll_nts : ∀ l : List Nat, DpAll K H (nts l) (l.map fun n : Nat => PyData.int n)
  | [] => .nil
  | n :: r => .cons (.int n) (dpAll_nts r)
theorem dpAll_bls : ∀ l : List Bool, DpAll K H (l.map V.bl) (l.map PyData.bool)
  | [] => .nil
  | n :: r => .cons (.bl n) (dpAll_bls r)
theorem dp_nts {a : Addr} {l : List Nat} (h : H a = some (.lst (nts l))) : Dp K H (.ref a) (dI l) := .lst (sq_of h) (dpAll_nts l)
theorem dp_bls {a : Addr} {l : List Bool} (h : H a = some (.lst (l.map V.bl))) : Dp K H (.ref a) (dB l) := .lst (sq_of h) (dpAll_bls l)
theorem dpAll_lls : ∀ {zs : List (Addr × List Nat)}, (∀ z ∈ zs, H z.1 = some (.lst (nts z.2))) → DpAll K H (zs.map fun z => V.ref z.1) (zs.map fun z => dI z.2)
  | [], _ => .nil
  | z :: r, h => .cons (dp_nts (h z List.mem_cons_self)) (dpAll_lls fun y hy => h y (List.mem_cons_of_mem _ hy))
theorem dp_lls {a : Addr} {zs : List (Addr × List Nat)} (ha : H a = some (.lst (zs.map fun z => V.ref z.1))) (h : ∀ z ∈ zs, H z.1 = some (.lst (nts z.2))) : Dp K H (.ref a) (dLL (zs.map fun z => z.2)) := by
  have := Dp.lst (sq_of (K := K) ha) (dpAll_lls h)
  unfold dLL
  rw [List.map_map]
  exact this
end
theorem layI : ∀ l : List Nat, PyData.canLayAll0 (l.map fun n : Nat => PyData.int n) = true
  | [] => rfl
  | x :: r => by
    show (true && PyData.canLayAll0 (r.map fun n : Nat => PyData.int n)) = true
    rw [layI r]
    rfl
theorem layB : ∀ l : List Bool, PyData.canLayAll0 (l.map PyData.bool) = true
  | [] => rfl
  | x :: r => by
    show (true && PyData.canLayAll0 (r.map PyData.bool)) = true
    rw [layB r]
    rfl
theorem depI : ∀ l : List Nat, PyData.depthAll (l.map fun n : Nat => PyData.int n) = 0
  | [] => rfl
  | x :: r => by
    show max 0 (PyData.depthAll (r.map fun n : Nat => PyData.int n)) = 0
    rw [depI r]
    rfl
theorem depB : ∀ l : List Bool, PyData.depthAll (l.map PyData.bool) = 0
  | [] => rfl
  | x :: r => by
    show max 0 (PyData.depthAll (r.map PyData.bool)) = 0
    rw [depB r]
    rfl
theorem layLL : ∀ l : List (List Nat), PyData.canLayAll0 (l.map dI) = true
  | [] => rfl
  | x :: r => by
    show (PyData.canLayAll0 (x.map fun n : Nat => PyData.int n) && PyData.canLayAll0 (r.map dI)) = true
    rw [layI, layLL r]
    rfl
theorem depLL : ∀ l : List (List Nat), PyData.depthAll (l.map dI) ≤ 1
  | [] => Nat.zero_le _
  | x :: r => by
    show max (PyData.depthAll (x.map fun n : Nat => PyData.int n) + 1) (PyData.depthAll (r.map dI)) ≤ 1
    rw [depI]
    have := depLL r
    omega
theorem shI (l : List Nat) : PySem.SeqAt.shaped (dI l) = true := by
  show (PyData.canLayAll0 (l.map fun n : Nat => PyData.int n) && decide (PyData.depthAll (l.map fun n : Nat => PyData.int n) + 1 ≤ 64)) = true
  rw [layI, depI]
  rfl
theorem shB (l : List Bool) : PySem.SeqAt.shaped (dB l) = true := by
  show (PyData.canLayAll0 (l.map PyData.bool) && decide (PyData.depthAll (l.map PyData.bool) + 1 ≤ 64)) = true
  rw [layB, depB]
  rfl
theorem shLL (l : List (List Nat)) : PySem.SeqAt.shaped (dLL l) = true := by
  show (PyData.canLayAll0 (l.map dI) && decide (PyData.depthAll (l.map dI) + 1 ≤ 64)) = true
  have := depLL l
  rw [layLL, decide_eq_true (by omega)]
  rfl
theorem eqvI : ∀ l m : List Nat, PyData.eqv (dI l) (dI m) = decide (l = m)
  | [], [] => rfl
  | [], _ :: _ => rfl
  | _ :: _, [] => rfl
  | x :: r, y :: t => by
    have ih := eqvI r t
    show (((x : Int) == (y : Int)) && PyData.eqv (dI r) (dI t)) = decide (x :: r = y :: t)
    have e : ((x : Int) == (y : Int)) = decide (x = y) := by
      by_cases h : x = y
      · simp [h]
      · rw [decide_eq_false h]
        have h' : ¬ ((x : Int) = (y : Int)) := fun z => h (by omega)
        simp [h']
    rw [ih, e]
    by_cases h1 : x = y <;> by_cases h2 : r = t <;> simp [h1, h2]
theorem eqvB : ∀ l m : List Bool, PyData.eqv (dB l) (dB m) = decide (l = m)
  | [], [] => rfl
  | [], _ :: _ => rfl
  | _ :: _, [] => rfl
  | x :: r, y :: t => by
    have ih := eqvB r t
    show (PyData.eqv (.bool x) (.bool y) && PyData.eqv (dB r) (dB t)) = decide (x :: r = y :: t)
    rw [ih]
    have e : PyData.eqv (.bool x) (.bool y) = decide (x = y) := by cases x <;> cases y <;> rfl
    rw [e]
    by_cases h1 : x = y <;> by_cases h2 : r = t <;> simp [h1, h2]
theorem eqvLL : ∀ l m : List (List Nat), PyData.eqv (dLL l) (dLL m) = decide (l = m)
  | [], [] => rfl
  | [], _ :: _ => rfl
  | _ :: _, [] => rfl
  | x :: r, y :: t => by
    have ih := eqvLL r t
    show (PyData.eqv (dI x) (dI y) && PyData.eqv (dLL r) (dLL t)) = decide (x :: r = y :: t)
    rw [ih, eqvI]
    by_cases h1 : x = y <;> by_cases h2 : r = t <;> simp [h1, h2]
section
variable {K : PySem.W.Frag} {σ : L2.St} {H : Hp} {ta tb : TE}
theorem ev_neI {b : Addr} {l m : List Nat} (h1 : EvL ta σ H (nts l)) (h2 : Ev tb σ H (.ref b)) (hb : H b = some (.lst (nts m))) : Ev (tOp (rNeD K) ta tb) σ H (.bl (!decide (l = m))) := fun H1 e Q q =>
  h1 H1 e _ fun p H2 np e2 hp => h2 H2 (Ex.trans e e2) _ fun H3 e3 => ⟨dI l, dI m, dp_nts (e3 _ _ hp), dp_nts (Ex.trans e (Ex.trans e2 e3) _ _ hb), shI l, shI m, by rw [eqvI]; exact q H3 (Ex.trans e2 e3)⟩
theorem ev_eqI {b : Addr} {l m : List Nat} (h1 : EvL ta σ H (nts l)) (h2 : Ev tb σ H (.ref b)) (hb : H b = some (.lst (nts m))) : Ev (tOp (rEqD K) ta tb) σ H (.bl (decide (l = m))) := fun H1 e Q q =>
  h1 H1 e _ fun p H2 np e2 hp => h2 H2 (Ex.trans e e2) _ fun H3 e3 => ⟨dI l, dI m, dp_nts (e3 _ _ hp), dp_nts (Ex.trans e (Ex.trans e2 e3) _ _ hb), shI l, shI m, by rw [eqvI]; exact q H3 (Ex.trans e2 e3)⟩
theorem ev_neB {l m : List Bool} (h1 : EvL ta σ H (l.map V.bl)) (h2 : EvL tb σ H (m.map V.bl)) : Ev (tOp (rNeD K) ta tb) σ H (.bl (!decide (l = m))) := fun H1 e Q q =>
  h1 H1 e _ fun p H2 np e2 hp => h2 H2 (Ex.trans e e2) _ fun p' H3 _ e3 hp' => ⟨dB l, dB m, dp_bls (e3 _ _ hp), dp_bls hp', shB l, shB m, by rw [eqvB]; exact q H3 (Ex.trans e2 e3)⟩
end
end Lm

namespace Lm
open PySem L2 Evl RZ
def rInt : List V → Hp → VK → Prop := fun xs H Q => (∃ i, xs = [V.int i] ∧ Q (V.int i) H) ∨ ∃ k, xs = [V.bl k] ∧ Q (V.int (if k = true then 1 else 0)) H
/-! ### comprehensions of new lists -/
def frs (zs : List (Addr × List V)) : List V := zs.map fun z => V.ref z.1
def EvLL (te : TE) (σ : L2.St) (H : Hp) (xss : List (List V)) : Prop := ∀ H1, Ex H H1 → ∀ Q : VK, (∀ p zs H2, H1 p = none → Ex H1 H2 → H2 p = some (.lst (frs zs)) → zs.map (fun z => z.2) = xss → (∀ z ∈ zs, H2 z.1 = some (.lst z.2)) → Q (.ref p) H2) → te σ H1 Q
/-- what is there behind i turns -/
def Nw (H : Hp) (g : Nat → List V) (D : Addr) (i : Nat) (H' : Hp) : Prop := H D = none ∧ Ex H H' ∧ ∃ zs, H' D = some (.lst (frs zs)) ∧ zs.map (fun z => z.2) = (List.range i).map g ∧ ∀ z ∈ zs, z.1 ≠ D ∧ H' z.1 = some (.lst z.2)
theorem nw_len {H : Hp} {g : Nat → List V} {D : Addr} {i : Nat} {zs : List (Addr × List V)} (h : zs.map (fun z => z.2) = (List.range i).map g) : zs.length = i := by
  have := congrArg List.length h
  simpa using this
theorem nw_turn {H H' : Hp} {g : Nat → List V} {D : Addr} {i : Nat} {σ2 : L2.St} {te : TE} (p : Nw H g D i H') (hi : i < 50000) (he : EvL te σ2 H (g i)) :
    tYes σ2 H' fun b H3 => if b = true then te σ2 H3 fun y H4 => ∃ acc, H4 D = some (.lst acc) ∧ acc.length < sizeLine ∧ Nw H g D (i + 1) (upd H4 D (.lst (acc ++ [y]))) else Nw H g D (i + 1) H3 := by
  obtain ⟨p1, p2, zs, p3, p4, p5⟩ := p
  show te σ2 H' _
  refine he H' p2 _ fun a H4 na e4 ha => ?_
  have hD4 := e4 _ _ p3
  have haD : a ≠ D := (ne_of_none p3 na).symm
  refine ⟨frs zs, hD4, sz_lt (by unfold frs; rw [List.length_map, nw_len (H := H) (D := D) p4]; omega), p1, Ex.mut (Ex.trans p2 e4) p1, zs ++ [(a, g i)], ?_, ?_, fun z hz => ?_⟩
  · rw [upd_same]
    unfold frs
    rw [List.map_append]
    rfl
  · rw [List.map_append, p4, List.range_succ, List.map_append]
    rfl
  · rcases List.mem_append.mp hz with q | q
    · obtain ⟨q1, q2⟩ := p5 z q
      exact ⟨q1, by rw [upd_ne q1]; exact e4 _ _ q2⟩
    · rw [List.mem_singleton.mp q]
      exact ⟨haD, by rw [upd_ne haD]; exact ha⟩
section
variable {K : PySem.W.Frag} {σ : L2.St} {H : Hp} {te : TE}
theorem el_newR {ta : TA} {j n : Nat} {g : Nat → List V} (h : EvA ta σ H [.int (n : Int)]) (hn : n ≤ 40000) (he : ∀ k < n, ∀ H1, Ex H H1 → EvL te ((wipe σ [j]).set j (some (.int (k : Nat)))) H1 (g k)) :
    EvLL (tLc (iRng1 ta) (gName j) tYes te [j]) σ H ((List.range n).map g) := fun H0 e Q q => h H0 e _ fun H1 e1 => ⟨(n : Int), rfl, by omega, by omega, fun Dl hD =>
  lc_range (lo := 0) (n := ((n : Int)).toNat) (Nw H1 g Dl) ⟨hD, Ex.new hD, [], upd_same, rfl, fun z hz => (List.not_mem_nil hz).elim⟩ (fun i H' hi p => by
    have e0 : (0 : Int) + (i : Int) = (i : Int) := Int.zero_add _
    rw [e0]
    exact ⟨wipe1 _ j _, nw_turn p (by omega) (he i (by omega) H1 (Ex.trans e e1))⟩) (fun H' p => by
    obtain ⟨p1, p2, zs, p3, p4, p5⟩ := p
    exact q Dl zs H' (fresh_back e1 p1) (Ex.trans e1 p2) p3 (by simpa using p4) fun z hz => (p5 z hz).2)⟩
theorem el_newL {tl : TE} {j : Nat} {a : Addr} {xs : List V} {g : Nat → List V} (h : Ev tl σ H (.ref a)) (ha : H a = some (.lst xs)) (hz : xs.length ≤ 40000) (he : ∀ (i : Nat) x, xs[i]? = some x → ∀ H1, Ex H H1 → EvL te ((wipe σ [j]).set j (some x)) H1 (g i)) :
    EvLL (tLc (iList K tl) (gName j) tYes te [j]) σ H ((List.range xs.length).map g) := fun H0 e Q q => h H0 e _ fun H1 e1 => ⟨a, rfl, ⟨xs, sq_of (Ex.trans e e1 _ _ ha)⟩, fun Dl hD =>
  lc_list (xs := xs) (Nw H1 g Dl) ⟨hD, Ex.new hD, [], upd_same, rfl, fun z hz => (List.not_mem_nil hz).elim⟩ (fun i H' _ p => sq_of (Ex.trans (Ex.trans e e1) p.2.1 _ _ ha)) (fun i x H' hx p => ⟨wipe1 _ j x, nw_turn p (by have := (List.getElem?_eq_some_iff.mp hx).1; omega) (he i x hx H1 (Ex.trans e e1))⟩) (fun H' p => by
    obtain ⟨p1, p2, zs, p3, p4, p5⟩ := p
    exact q Dl zs H' (fresh_back e1 p1) (Ex.trans e1 p2) p3 p4 fun z hz => (p5 z hz).2)⟩
theorem el_newU {tl : TE} {j : Nat} {xs : List V} {g : Nat → List V} (h : EvU tl σ H xs) (hz : xs.length ≤ 40000) (he : ∀ (i : Nat) x, xs[i]? = some x → ∀ H1, Ex H H1 → EvL te ((wipe σ [j]).set j (some x)) H1 (g i)) :
    EvLL (tLc (iTup K tl) (gName j) tYes te [j]) σ H ((List.range xs.length).map g) := fun H0 e Q q => h H0 e _ fun a H1 na e1 ha => ⟨a, rfl, ⟨xs, st_of ha⟩, fun Dl hD =>
  lc_tup (xs := xs) (Nw H1 g Dl) ⟨hD, Ex.new hD, [], upd_same, rfl, fun z hz => (List.not_mem_nil hz).elim⟩ (fun i H' _ p => st_of (p.2.1 _ _ ha)) (fun i x H' hx p => ⟨wipe1 _ j x, nw_turn p (by have := (List.getElem?_eq_some_iff.mp hx).1; omega) (he i x hx H1 (Ex.trans e e1))⟩) (fun H' p => by
    obtain ⟨p1, p2, zs, p3, p4, p5⟩ := p
    exact q Dl zs H' (fresh_back e1 p1) (Ex.trans e1 p2) p3 p4 fun z hz => (p5 z hz).2)⟩
end
section
variable {K : PySem.W.Frag} {σ : L2.St} {H : Hp} {te : TE}
theorem ev_maxN {l : List Nat} {m : Nat} (h : EvL te σ H (nts l)) (h1 : m ∈ l) (h2 : ∀ x ∈ l, x ≤ m) : Ev (tCB (rMax K) (tCons te tNil)) σ H (.int m) := fun H1 e Q q => h H1 e _ fun p H2 np e2 hp => by
  refine ⟨p, l.map fun n : Nat => (n : Int), rfl, sq_of ?_, ?_, fun mm hm1 hm2 => ?_⟩
  · rw [hp]
    unfold nts
    rw [List.map_map]
    rfl
  · rw [List.length_map]
    exact List.length_pos_of_mem h1
  · obtain ⟨x, hx, rfl⟩ := List.mem_map.mp hm1
    have a := h2 x hx
    have b := hm2 (m : Nat) (List.mem_map.mpr ⟨m, h1, rfl⟩)
    have e : x = m := by omega
    rw [e]
    exact q H2 e2
end
/-! ### [e for k, x in enumerate(l) if t] -/
section
variable {K : PySem.W.Frag} {σ : L2.St} {H : Hp} {te : TE} {tt : TT}
theorem el_enumL {ta : TE} {a : Addr} {xs : List V} {i j : Nat} {vs : List Nat} (f : Nat → Bool) (v : Nat → V) (ha : Ev ta σ H (.ref a)) (hx : H a = some (.lst xs)) (hz : xs.length ≤ 40000) (hw : ∀ x y, wipe (((wipe σ vs).set i (some x)).set j (some y)) vs = wipe σ vs)
    (ht : ∀ (n : Nat) x H1, Ex H H1 → xs[n]? = some x → EvT tt (((wipe σ vs).set i (some (.int (n : Nat)))).set j (some x)) H1 (f n)) (he : ∀ (n : Nat) x H1, Ex H H1 → xs[n]? = some x → f n = true → Ev te (((wipe σ vs).set i (some (.int (n : Nat)))).set j (some x)) H1 (v n)) :
    EvL (tLc (iEnumA K (tCons ta tNil)) (gTup K 2 (gCons (gName i) (gCons (gName j) gNil))) tt te vs) σ H (given xs.length f v) := fun H0 e Q q => ha H0 e _ fun H1 e1 => by
  have E := Ex.trans e e1
  refine ⟨a, xs, rfl, .inl ⟨sq_of (E _ _ hx), fun D hD => lc_it walk_enum (Cw H1 f v D) ⟨hD, Ex.new hD, upd_same⟩ (fun n H' _ p => sq_of (Ex.trans E p.2.1 _ _ hx)) (fun n z Hn Hn' hn p y => ?_) (fun H' p => q D H' (fresh_back e1 p.1) (Ex.trans e1 p.2.1) p.2.2)⟩⟩
  obtain ⟨T', x1, x2, rfl, nT, rfl, hx1, hx2⟩ := y
  cases (Option.some.inj hx1)
  refine ⟨T', _, rfl, SqT.of upd_same, rfl, _, _, rfl, _, _, rfl, rfl, hw _ _, ?_⟩
  have p' : Cw H1 f v D n (upd Hn T' (.tup [.int (n : Nat), x2])) := ⟨p.1, Ex.trans p.2.1 (Ex.new nT), by rw [upd_ne (ne_of_none p.2.2 nT)]; exact p.2.2⟩
  exact cw_turn p' (by omega) (ht n x2 H1 E hx2) fun hf => he n x2 H1 E hx2 hf
end
end Lm

namespace Lm
open PySem L2 Evl RZ
theorem ker_yes {S : Nat → Bool} {i : Nat} (h : S i = true) : ker S (i + 1) = i + 1 := by
  show (if S i = true then i + 1 else ker S i) = i + 1
  rw [if_pos h]
theorem ker_no {S : Nat → Bool} {i : Nat} (h : S i = false) : ker S (i + 1) = ker S i := by
  show (if S i = true then i + 1 else ker S i) = ker S i
  rw [if_neg (by rw [h]; exact Bool.false_ne_true)]
section
variable {P : Program} {w : World} {K : PySem.W.Frag} {mg : Str → Option Value} {base : Heap} {f : Addr} {fd : FuncData}

def snds (ps : List (Addr × (Nat → Bool))) : List (Nat → Bool) := ps.map fun z => z.2
def spWalk (CW CE CA : Addr) : Sp := fun vs H Q _ => ∃ (st c b r p wk tw : Addr) (ws : List Str) (ps : List (Addr × (Nat → Bool))), vs = [.ref st, .ref b, .ref r, .ref p] ∧ StAt H st c ∧ b ≠ st ∧ H b = some (.lst [.ref wk, .ref tw]) ∧ WkAt CW H wk "a" ws ∧ WkAt CW H tw "a" ws ∧ WOk ws ∧ r ≠ st ∧ H r = some (.lst (ws.map V.str)) ∧ RowsAt H st ws.length p ps ∧ ps.length ≤ 100 ∧
  ∀ q wk' H', H q = none → StAt H' st c → Kp st H H' → WaAt CW CE CA H' q wk' "a" ws (snds ps) → Q (.ref q) H'
theorem two_of {CW wk tw : Addr} {ws : List Str} {H : Hp} {v : V} (h1 : WkAt CW H wk "a" ws) (h2 : WkAt CW H tw "a" ws) (hv : v ∈ [V.ref wk, .ref tw]) : ∃ w', v = .ref w' ∧ WkAt CW H w' "a" ws := by
  simp only [List.mem_cons, List.not_mem_nil, or_false] at hv
  rcases hv with rfl | rfl
  · exact ⟨_, rfl, h1⟩
  · exact ⟨_, rfl, h2⟩
/-! ### things in a drawn order -/
def spMix : Sp := fun vs H Q _ => ∃ (st c p : Addr) (N : Nat) (ps : List (Addr × (Nat → Bool))), vs = [.ref st, .ref p] ∧ StAt H st c ∧ RowsAt H st N p ps ∧ ps.length ≤ 100 ∧ ∀ q ps' H', H q = none → ps'.Perm ps → StAt H' st c → Kp st H H' → RowsAt H' st N q ps' → Q (.ref q) H'
/-! ### the law's kernels, table, courses -/
def spKernsL : Sp := fun vs H Q _ => ∃ (l : Addr) (N : Nat) (S : Nat → Bool), vs = [.ref l, .int N] ∧ H l = some (.lst (nts (idx N S))) ∧ N ≤ 60 ∧ ∀ p H', H p = none → Same H H' → H' p = some (.lst (nts (kerL N S))) → Q (.ref p) H'
abbrev s_kernels : Stmt := top 43
theorem sc_kernels : FnScope ["_law_numbers", "_law_many_here", "_law_found", "_law_k"] ["_law_numbers", "_law_many_here"] (defScope s_kernels) := ⟨rfl, rfl, rfl, by decide +kernel, rfl, by decide +kernel, by decide +kernel⟩
theorem ok_kernelsL (F : Fun K "_law_kernels" "_law_kernels" s_kernels f fd) (T : Blt mg) : FnOk P w K mg base CX0 1 f fd ["_law_numbers", "_law_many_here"] spKernsL := by
  refine F.ok sc_kernels (fun vs H Q E h => ?_) (fun cdv A outer s H vs Q E hr h => ?_)
  · obtain ⟨l, N, S, rfl, _⟩ := h
    rfl
  · obtain ⟨l, N, S, rfl, hl, hN, k⟩ := h
    refine ⟨_, (pss_cons (ps_set (i := 2) sc_kernels.nd rfl (by first | exact Or.inl rfl | exact Or.inr rfl) (pe_lst (pa_cons pe_int pa_nil)))
        (pss_cons (ps_for PassesOwn.never rfl (pi_range1 rfl T.b_range (pa_cons (pv 1) pa_nil)) (pg_name (i := 3) sc_kernels.nd rfl (by first | exact Or.inl rfl | exact Or.inr rfl)) (pss_one (ps_expr (pe_bm PySem.F.plainAttrs_list PySem.F.slot_list_append PySem.F.type_list_append mt_append (pv 2) (pa_cons (pe_ifExp (pt_cmpR op_in_seq (pv 3) (pv 0) (by rfl)) (pe_op op_add (pv 3) pe_int) (pe_ix ix_list (pv 2) (pv 3) (fun _ _ => rfl))) pa_nil)))))
        (pss_one (ps_ret (pv 2))))), ?_⟩
    refine q_asgL (el_lst (ea_cons ev_c ea_nil) (by show 1 ≤ 100000; decide)) fun p H1 np e1 hp => ?_
    have hlp : l ≠ p := ne_of_none hl np
    refine q_forR1 (n := (N : Int)) (ea_cons (ev_var rfl) ea_nil) ⟨by omega, by omega⟩ (fun i σ' H' => ∃ u : Option V, σ' = [some (.ref l), some (.int N), some (.ref p), u] ∧ Same H H' ∧ H' p = some (.lst (nts (kerL i S)))) (fun H2 e2 => ⟨none, rfl, Same.trans e1 e2, e2 _ _ hp⟩) ?_ ?_
    · rintro i σ' H' hi ⟨u, rfl, e, gp⟩
      have hi : i < N := by omega
      refine s_app (v := .int (ker S (i + 1) : Nat)) gp (ev_var rfl) (ev_if (b := S i) (et_is (et_test (ev_op (ev_var rfl) (ev_var rfl) (rv_isL (sq_of (e _ _ hl)) rfl (nts_flat _)))) ?_) (fun hb => ev_is (ev_op (ev_var rfl) ev_c rv_I0) ?_) (fun hb => ev_op (ev_var rfl) (ev_var rfl) (rv_ixL (sq_of gp) (atI_nat (nts_at ?_))))) (by rw [nts_len, kerL_len]; omega) fun H2 e2 => ⟨_, rfl, Same.mut (Same.trans e e2) np, ?_⟩
      · rw [nts_in]
        by_cases h : S i = true
        · rw [h]; exact decide_eq_true (idx_mem.mpr ⟨hi, h⟩)
        · rw [decide_eq_false (fun z => h (idx_mem.mp z).2)]
          simpa using h
      · rw [ker_yes hb]
        rfl
      · rw [ker_no hb]
        exact kerL_at S (Nat.le_refl _)
      · rw [upd_same]
        unfold nts kerL
        rw [List.range_succ (n := i + 1)]
        simp
    · rintro σ' H' ⟨u, rfl, e, gp⟩
      rw [Int.toNat_natCast] at gp
      exact s_ret (ev_var rfl) fun H2 e2 => k p H2 np (Same.trans e e2) (e2 _ _ gp)
end
end Lm

namespace Lm
open PySem L2 Evl RZ
section
variable {P : Program} {w : World} {K : PySem.W.Frag} {mg : Str → Option Value} {base : Heap} {f : Addr} {fd : FuncData}
/-- the rows, as they are read -/
def RowsR (H : Hp) (N : Nat) (p : Addr) (ps : List (Addr × (Nat → Bool))) : Prop := H p = some (.lst (ps.map fun z => V.ref z.1)) ∧ ∀ z ∈ ps, H z.1 = some (.lst (nts (idx N z.2)))
theorem RowsAt.r {H : Hp} {st p : Addr} {N : Nat} {ps : List (Addr × (Nat → Bool))} (h : RowsAt H st N p ps) : RowsR H N p ps := ⟨h.at_, fun z hz => (h.el z hz).2.2⟩
theorem RowsR.same {H H' : Hp} {p : Addr} {N : Nat} {ps : List (Addr × (Nat → Bool))} (h : RowsR H N p ps) (e : Same H H') : RowsR H' N p ps := ⟨e _ _ h.1, fun z hz => e _ _ (h.2 z hz)⟩
def spTableL : Sp := fun vs H Q _ => ∃ (p : Addr) (N : Nat) (ps : List (Addr × (Nat → Bool))), vs = [.ref p, .int N] ∧ RowsR H N p ps ∧ N ≤ 60 ∧ ps.length ≤ 100 ∧ ∀ q H', H q = none → Same H H' → H' q = some (.lst (nts (tbl N (tellW (snds ps))))) → Q (.ref q) H'
abbrev s_table : Stmt := top 44
theorem sc_table : FnScope ["_law_some", "_law_many_here", "_law_found", "_law_numbers", "_law_row", "_law_far"] ["_law_some", "_law_many_here"] (defScope s_table) := ⟨rfl, rfl, rfl, by decide +kernel, rfl, by decide +kernel, by decide +kernel⟩
theorem ok_tableL {fK : Addr} {fdK : FuncData} (F : Fun K "_law_table" "_law_table" s_table f fd) (T : Blt mg) (D_kernels : DefOk P w K mg base 1 "_law_kernels" fK fdK ["_law_numbers", "_law_many_here"] spKernsL) : FnOk P w K mg base CX0 2 f fd ["_law_some", "_law_many_here"] spTableL := by
  refine F.ok sc_table (fun vs H Q E h => ?_) (fun cdv A outer s H vs Q E hr h => ?_)
  · obtain ⟨p, N, ps, rfl, _⟩ := h
    rfl
  · obtain ⟨p, N, ps, rfl, hR, hN, hpl, k⟩ := h
    refine ⟨_, (pss_cons (ps_set (i := 2) sc_table.nd rfl (by first | exact Or.inl rfl | exact Or.inr rfl) (pe_listRg rfl rfl T.b_list (prg_1 rfl T.b_range (pe_op op_add (pv 1) pe_int))))
        (pss_cons (ps_for PassesOwn.never rfl (pi_list (pv 0)) (pg_name (i := 3) sc_table.nd rfl (by first | exact Or.inl rfl | exact Or.inr rfl)) (pss_cons (ps_set (i := 4) sc_table.nd rfl (by first | exact Or.inl rfl | exact Or.inr rfl) (pe_d D_kernels (hr.mono (by decide)) (pa_cons (pv 3) (pa_cons (pv 1) pa_nil))))
        (pss_one (ps_setLc (i := 2) (own := [("_law_far", 5)]) (g := gName 5) (tt := tYes) (te := (tOp (rIxL K) (tVar 4) (tVar 5))) rfl sc_table.nd rfl rfl (sw_true rfl rfl rfl (by decide +kernel)) (pi_list (pv 2)) (blkOk_by (own := [("_law_far", 5)]) (by kernel_rfl)) (fun _ _ _ _ _ => (pg_name (i := 5) sc_table.nd rfl (by first | exact Or.inl rfl | exact Or.inr rfl))) (fun _ _ _ _ _ => pts_nil) (fun _ _ _ _ _ => by exact (pe_ix ix_list (pv 4) (pv 5) (fun _ _ => rfl)))))))
        (pss_one (ps_ret (pv 2))))), ?_⟩
    refine q_asgL (el_rg (n := (N : Int) + 1) (ev_op (ev_var rfl) ev_c rv_I0) ⟨by omega, by omega⟩) fun r H1 nr e1 hr1 => ?_
    have e : ((N : Int) + 1).toNat = N + 1 := by omega
    rw [e] at hr1
    refine q_forL (ev_var rfl) (sq_of (e1 _ _ hR.1)) (fun i σ' H' => ∃ (q : Addr) (u v x : Option V), σ' = [some (.ref p), some (.int N), some (.ref q), u, v, x] ∧ H q = none ∧ Same H H' ∧ H' q = some (.lst (nts (tbl N (tellW ((snds ps).take i))))))
      (fun H2 e2 => ⟨r, none, none, none, rfl, nr, Same.trans e1 e2, by rw [e2 _ _ hr1]; unfold tbl; congr 3; exact (List.map_id' _).symm⟩) (fun i σ' H' _ ⟨q, u, v, x, _, _, e, _⟩ => sq_of (e _ _ hR.1)) ?_ ?_
    · rintro i y σ' H' hy ⟨q, u, v, x, rfl, nq, e, gq⟩
      obtain ⟨z, hz, rfl⟩ := map_inv hy
      have hzr := hR.2 z (List.mem_of_getElem? hz)
      have hS : (snds ps)[i]? = some z.2 := by
        unfold snds
        rw [List.getElem?_map, hz]
        rfl
      refine ⟨_, rfl, _, rfl, z.1, N, z.2, rfl, e _ _ hzr, hN, fun kr H1 nk e1 hk => ?_⟩
      have e01 : Same H H1 := Same.trans e e1
      refine s_asgL (el_mapL (l := tbl N (tellW ((snds ps).take i))) (f := fun n : Nat => V.int n) (g := fun n => V.int (ker z.2 n : Nat)) (ev_var rfl) (e1 _ _ gq) (by rw [tbl_len]; omega) fun n hn H2 e2 => ?_) fun r2 H2 nr2 e2 hr2 => ⟨r2, _, _, _, rfl, e01.free nr2, Same.trans e01 e2, ?_⟩
      · unfold tbl at hn
        obtain ⟨c, hc, rfl⟩ := List.mem_map.mp hn
        have hc := List.mem_range.mp hc
        have := tell_le ((snds ps).take i) c
        exact ev_op (ev_var rfl) (ev_var rfl) (rv_ixL (sq_of (e2 _ _ hk)) (atI_nat (nts_at (kerL_at z.2 (by omega)))))
      · rw [hr2]
        unfold nts tbl
        rw [List.map_map, List.map_map]
        congr 2
        refine List.map_congr_left fun c _ => ?_
        show V.int (ker z.2 (tellW ((snds ps).take i) c) : Nat) = V.int (tellW ((snds ps).take (i + 1)) c : Nat)
        rw [take_tell hS]
    · rintro σ' H' ⟨q, u, v, x, rfl, nq, e, gq⟩
      refine s_ret (ev_var rfl) fun H1 e1 => k q H1 nq (Same.trans e e1) (e1 _ _ ?_)
      have : (snds ps).take (ps.map fun z => V.ref z.1).length = snds ps := by
        rw [List.length_map]
        unfold snds
        exact List.take_of_length_le (by rw [List.length_map]; exact Nat.le_refl _)
      rw [this] at gq
      exact gq
/-! ### the longest course -/
def spLongL : Sp := fun vs H Q _ => ∃ (p : Addr) (zs : List (Addr × List V)) (g : Nat → Nat) (n m l : Nat), vs = [.ref p] ∧ H p = some (.lst (frs zs)) ∧ (∀ z ∈ zs, H z.1 = some (.lst z.2)) ∧ zs.map (fun z => z.2.length) = (List.range n).map (fun k => g k + 1) ∧ n ≤ 100 ∧ Best g n m l ∧ ∀ q H', H q = none → Same H H' → H' q = some (.tup [.int m, .int l]) → Q (.ref q) H'
end
end Lm

namespace Lm
open PySem L2 Evl
theorem ev_fld {K : PySem.W.Frag} {σ : L2.St} {H : Hp} {te : TE} {a C dx : Addr} {fs : List (Str × V)} {f : Str} {v : V} (h : Ev te σ H (.ref a)) (ha : H a = some (.ins C dx fs)) (cl : Cls K C) (n : NoAttr K C f) (hf : fs.lookup f = some v) : Ev (tFld K te f) σ H v := fun H1 e Q q =>
  h H1 e _ fun H2 e2 => ⟨a, C, dx, fs, v, rfl, Ex.trans e e2 _ _ ha, cl, n, hf, q H2 e2⟩
section
variable {P : Program} {w : World} {K : PySem.W.Frag} {mg : Str → Option Value} {base : Heap} {f : Addr} {fd : FuncData}
def spWkPs (C : Addr) : Sp := fun vs H Q _ => ∃ (a : Addr) (nm : Str) (ws : List Str), vs = [.ref a] ∧ WkAt C H a nm ws ∧ ∀ p H', H p = none → Same H H' → H' p = some (.lst (ws.map V.str)) → Q (.ref p) H'
abbrev s_Work_passages : Stmt := inClass (top 17) 1
theorem sc_Work_passages : FnScope ["self"] ["self"] (defScope s_Work_passages) := ⟨rfl, rfl, rfl, by decide +kernel, rfl, by decide +kernel, by decide +kernel⟩
theorem ok_wk_ps {C : Addr} (F : Fun K "passages" "Work.passages" s_Work_passages f fd) (T : Blt mg) (W : WkTxt K C) : FnOk P w K mg base CX0 1 f fd ["self"] (spWkPs C) := by
  refine F.ok sc_Work_passages (fun vs H Q E h => ?_) (fun cdv A outer s H vs Q E hr h => ?_)
  · obtain ⟨a, nm, ws, rfl, _⟩ := h
    rfl
  · obtain ⟨a, nm, ws, rfl, ⟨dx, t, d, h1, h2, h3⟩, k⟩ := h
    refine ⟨_, (pss_one (ps_ret (pe_callTy call_list_of (by rfl) T.b_list (by decide +kernel) (pa_cons (pe_fld (pv 0) rfl) pa_nil)))), ?_⟩
    refine ⟨_, rfl, a, C, dx, _, _, rfl, h1, W.cl, W.nW, wk_words _ _ _, ?_⟩
    refine ⟨t, _, rfl, .inr (SqT.of h2), fun p np => k p _ np (Same.upd' np) upd_same⟩
/-- x in a work: any object -/
def spWkInA (K : PySem.W.Frag) (C : Addr) : Sp := fun vs H Q _ => ∃ (a : Addr) (x : V) (nm : Str) (ws : List Str), vs = [.ref a, x] ∧ WkAt C H a nm ws ∧ ws.Nodup ∧
  ((∃ z : Str, x = .str z ∧ Q (.bl (decide (z ∈ ws))) H) ∨ ∃ t : String, TyX K H x (.type t) ∧ kitB t "str" = some false ∧ Q (.bl false) H)
theorem ok_wk_inA {C : Addr} (F : Fun K "__contains__" "Work.__contains__" s_Work_contains f fd) (T : Blt mg) (W : WkTxt K C) : FnOk P w K mg base CX0 1 f fd ["self", "x"] (spWkInA K C) := by
  refine F.ok sc_Work_contains (fun vs H Q E h => ?_) (fun cdv A outer s H vs Q E hr h => ?_)
  · obtain ⟨a, x, nm, ws, rfl, _⟩ := h
    rfl
  · obtain ⟨a, x, nm, ws, rfl, ⟨dx, t, d, h1, h2, h3⟩, nd, k⟩ := h
    have hu := hu_of hr
    refine ⟨_, (pss_one (ps_ret (pe_and (pe_callB call_isi (by rfl) T.b_isinstance (by decide +kernel) (pa_cons (pv 1) (pa_cons (pe_bltn (v := .ty "str") (u := .type "str") (by rfl) T.b_str (by decide +kernel) rfl) pa_nil))) (pe_one (pe_cmp (pc_din hu (pv 1) (pe_fld (pv 0) rfl)) rfl))))), ?_⟩
    rcases k with ⟨z, rfl, k⟩ | ⟨t', ty, hk, k⟩
    · refine ⟨_, rfl, _, _, _, _, true, rfl, .ty _, .base (.str z), kit_ty (by decide +kernel), true, rfl, ?_⟩
      refine ⟨_, rfl, _, rfl, a, C, dx, _, _, rfl, h1, W.cl, W.nE, wk_ends _ _ _, d, _, rfl, DGet.k (k := Sum.inr z) h3, ?_⟩
      rw [valV_mem nd]
      exact k
    · exact ⟨_, rfl, x, _, _, _, false, rfl, .ty _, ty, kit_ty hk, false, rfl, k⟩
/-- a == y: any object -/
def spWkEqA (K : PySem.W.Frag) (C : Addr) : Sp := fun vs H Q _ => ∃ (a : Addr) (y : V) (nm : Str) (ws : List Str), vs = [.ref a, y] ∧ WkAt C H a nm ws ∧ (∀ x ∈ ws, isW x = true) ∧
  ((∃ (b : Addr) (nm' : Str) (ws' : List Str), y = .ref b ∧ WkAt C H b nm' ws' ∧ (∀ x ∈ ws', isW x = true) ∧ Q (.bl (decide (nm = nm' ∧ ws = ws'))) H) ∨ ∃ t : Value, TyX K H y t ∧ PySem.W.kitOne K t (.ref C) = some false ∧ Q (.bl false) H)
theorem ok_wk_eqA {C : Addr} (F : Fun K "__eq__" "Work.__eq__" s_Work_eq f fd) (T : Blt mg) (W : WkTxt K C) (T' : WkIsi K mg C) : FnOk P w K mg base CX0 1 f fd ["self", "other"] (spWkEqA K C) := by
  refine F.ok sc_Work_eq (fun vs H Q E h => ?_) (fun cdv A outer s H vs Q E hr h => ?_)
  · obtain ⟨a, y, nm, ws, rfl, _⟩ := h
    rfl
  · obtain ⟨a, y, nm, ws, rfl, ⟨dx, t, d, h1, h2, h3⟩, l1, k⟩ := h
    refine ⟨_, (pss_one (ps_ret (pe_and (pe_callB call_isi (by rfl) T.b_isinstance (by decide +kernel) (pa_cons (pv 1) (pa_cons (pe_glob (v := .ref _) rfl T'.g_Work rfl) pa_nil))) (pe_and (pe_cmpR op_eq (pe_fld (pv 0) rfl) (pe_fld (pv 1) rfl) (nomark _)) (pe_one (pe_cmpR (op_eqD hr.units) (pe_fld (pv 0) rfl) (pe_fld (pv 1) rfl) (nomark _))))))), ?_⟩
    rcases k with ⟨b, nm', ws', rfl, ⟨dy, t', d', g1, g2, g3⟩, l2, k⟩ | ⟨t', ty, hk, k⟩
    · refine ⟨_, rfl, _, _, _, _, true, rfl, .own C, .base (.ins g1 W.cl T'.ha T'.hn T'.htk T'.hm), T'.ko, true, rfl, ?_⟩
      refine ⟨_, rfl, a, C, dx, _, _, rfl, h1, W.cl, W.nN, wk_name _ _ _, _, rfl, b, C, dy, _, _, rfl, g1, W.cl, W.nN, wk_name _ _ _, rfl, _, rfl, ite2 (fun hn => ?_) (fun hn => ?_)⟩
      · have hn : nm = nm' := V.str.inj (of_decide_eq_true hn)
        refine ⟨_, rfl, a, C, dx, _, _, rfl, h1, W.cl, W.nW, wk_words _ _ _, _, rfl, b, C, dy, _, _, rfl, g1, W.cl, W.nW, wk_words _ _ _, _, _, .tup (SqT.of h2) (dpAll_strs ws), .tup (SqT.of g2) (dpAll_strs ws'), shaped_strs ws l1, shaped_strs ws' l2, ?_⟩
        have e : decide (nm = nm' ∧ ws = ws') = decide (ws = ws') := by simp [hn]
        rw [e] at k
        rw [eqv_strs]
        exact k
      · have hn : ¬ nm = nm' := fun z => hn (decide_eq_true (congrArg V.str z))
        have e : decide (nm = nm' ∧ ws = ws') = false := by simp [hn]
        rw [e] at k
        exact k
    · exact ⟨_, rfl, y, _, _, _, false, rfl, .own C, ty, hk, false, rfl, k⟩
def spEdPs (CW CE : Addr) : Sp := fun vs H Q _ => ∃ (e wk : Addr) (nm : Str) (ws : List Str) (S : Nat → Bool), vs = [.ref e] ∧ EdAt CW CE H e wk nm ws S ∧ ∀ p H', H p = none → Same H H' → H' p = some (.lst ((pick ws S).map V.str)) → Q (.ref p) H'
abbrev s_Edition_passages : Stmt := inClass (top 18) 1
theorem sc_Edition_passages : FnScope ["self"] ["self"] (defScope s_Edition_passages) := ⟨rfl, rfl, rfl, by decide +kernel, rfl, by decide +kernel, by decide +kernel⟩
theorem ok_ed_ps {CW CE : Addr} (F : Fun K "passages" "Edition.passages" s_Edition_passages f fd) (T : Blt mg) (W : EdTxt K CE) : FnOk P w K mg base CX0 1 f fd ["self"] (spEdPs CW CE) := by
  refine F.ok sc_Edition_passages (fun vs H Q E h => ?_) (fun cdv A outer s H vs Q E hr h => ?_)
  · obtain ⟨e, wk, nm, ws, S, rfl, _⟩ := h
    rfl
  · obtain ⟨e, wk, nm, ws, S, rfl, ⟨⟨dx, t, u, v, h1, h2, h3, h4⟩, _⟩, k⟩ := h
    refine ⟨_, (pss_one (ps_ret (pe_callTy call_list_of (by rfl) T.b_list (by decide +kernel) (pa_cons (pe_fld (pv 0) rfl) pa_nil)))), ?_⟩
    refine ⟨_, rfl, e, CE, dx, _, _, rfl, h1, W.cl, W.nW, ed_words _ _ _ _, ?_⟩
    refine ⟨t, _, rfl, .inr (SqT.of h2), fun p np => k p _ np (Same.upd' np) upd_same⟩
theorem pick_word {ws : List Str} {S : Nat → Bool} (h : ∀ x ∈ ws, isW x = true) : ∀ x ∈ pick ws S, isW x = true := fun x hx => by
  unfold pick at hx
  obtain ⟨i, hi, e⟩ := List.mem_map.mp hx
  have hi := (idx_mem.mp hi).1
  rw [← e]
  exact h _ (List.mem_of_getElem? (nth_at hi))
/-- e == y: any object -/
def spEdEqA (K : PySem.W.Frag) (CW CE : Addr) : Sp := fun vs H Q _ => ∃ (e wk : Addr) (y : V) (nm : Str) (ws : List Str) (S : Nat → Bool), vs = [.ref e, y] ∧ EdAt CW CE H e wk nm ws S ∧ (∀ x ∈ ws, isW x = true) ∧
  ((∃ (e' wk' : Addr) (nm' : Str) (ws' : List Str) (S' : Nat → Bool), y = .ref e' ∧ EdAt CW CE H e' wk' nm' ws' S' ∧ (∀ x ∈ ws', isW x = true) ∧ Q (.bl (decide ((nm = nm' ∧ ws = ws') ∧ pick ws S = pick ws' S'))) H) ∨ ∃ t : Value, TyX K H y t ∧ PySem.W.kitOne K t (.ref CE) = some false ∧ Q (.bl false) H)
abbrev s_Edition_eq : Stmt := inClass (top 18) 13
theorem sc_Edition_eq : FnScope ["self", "other"] ["self", "other"] (defScope s_Edition_eq) := ⟨rfl, rfl, rfl, by decide +kernel, rfl, by decide +kernel, by decide +kernel⟩
theorem ok_ed_eqA {CW CE fE : Addr} {fdE : FuncData} (F : Fun K "__eq__" "Edition.__eq__" s_Edition_eq f fd) (T : Blt mg) (W : EdTxt K CE) (T' : EdIsi K mg CE) (M_Work_eq : MetOk P w K mg base 1 CW "__eq__" fE fdE ["self", "other"] (spWkEqA K CW)) : FnOk P w K mg base CX0 2 f fd ["self", "other"] (spEdEqA K CW CE) := by
  refine F.ok sc_Edition_eq (fun vs H Q E h => ?_) (fun cdv A outer s H vs Q E hr h => ?_)
  · obtain ⟨e, wk, y, nm, ws, S, rfl, _⟩ := h
    rfl
  · obtain ⟨e, wk, y, nm, ws, S, rfl, ⟨⟨dx, t, u, v, h1, h2, h3, h4⟩, hw⟩, l1, k⟩ := h
    refine ⟨_, (pss_one (ps_ret (pe_and (pe_callB call_isi (by rfl) T.b_isinstance (by decide +kernel) (pa_cons (pv 1) (pa_cons (pe_glob (v := .ref _) rfl T'.g_Edition rfl) pa_nil))) (pe_and (pe_cmpR (M_Work_eq.eq (hr.mono (by decide))) (pe_fld (pv 0) rfl) (pe_fld (pv 1) rfl) (nomark _)) (pe_one (pe_cmpR (op_eqD hr.units) (pe_fld (pv 0) rfl) (pe_fld (pv 1) rfl) (nomark _))))))), ?_⟩
    rcases k with ⟨e', wk', nm', ws', S', rfl, ⟨⟨dy, t', u', v', g1, g2, g3, g4⟩, hw'⟩, l2, k⟩ | ⟨t', ty, hk, k⟩
    · obtain ⟨d1, x1, x2, o1, o2, o3⟩ := id hw.ob
      obtain ⟨d2, y1, y2, q1, q2, q3⟩ := id hw'.ob
      refine ⟨_, rfl, _, _, _, _, true, rfl, .own CE, .base (.ins g1 W.cl T'.ha T'.hn T'.htk T'.hm), T'.ko, true, rfl, ?_⟩
      refine ⟨_, rfl, e, CE, dx, _, _, rfl, h1, W.cl, W.nK, ed_work _ _ _ _, _, rfl, e', CE, dy, _, _, rfl, g1, W.cl, W.nK, ed_work _ _ _ _, ?_⟩
      refine ⟨wk, d1, _, wk', d2, _, rfl, rfl, o1, q1, wk, _, nm, ws, rfl, hw, l1, .inl ⟨wk', nm', ws', rfl, hw', l2, ?_⟩⟩
      refine ⟨_, rfl, ite2 (fun hn => ?_) (fun hn => ?_)⟩
      · have hn := of_decide_eq_true hn
        refine ⟨_, rfl, e, CE, dx, _, _, rfl, h1, W.cl, W.nW, ed_words _ _ _ _, _, rfl, e', CE, dy, _, _, rfl, g1, W.cl, W.nW, ed_words _ _ _ _, _, _, .tup (SqT.of h2) (dpAll_strs _), .tup (SqT.of g2) (dpAll_strs _), shaped_strs _ (pick_word l1), shaped_strs _ (pick_word l2), ?_⟩
        have e2 : decide ((nm = nm' ∧ ws = ws') ∧ pick ws S = pick ws' S') = decide (pick ws S = pick ws' S') := by simp [hn]
        rw [e2] at k
        rw [eqv_strs]
        exact k
      · have hn : ¬ (nm = nm' ∧ ws = ws') := fun z => hn (decide_eq_true z)
        have e2 : decide ((nm = nm' ∧ ws = ws') ∧ pick ws S = pick ws' S') = false := decide_eq_false fun z => hn z.1
        rw [e2] at k
        exact k
    · exact ⟨_, rfl, y, _, _, _, false, rfl, .own CE, ty, hk, false, rfl, k⟩
end
end Lm

namespace Lm
open PySem L2 Evl
/-! ### cuts of lists -/
theorem cutV_from (xs : List V) (k : Nat) : cutV xs (some (k : Int)) none = xs.drop k := by
  unfold cutV
  rw [HT.sIx_nat, HT.sIx_none]
  rcases Nat.le_total k xs.length with h | h
  · rw [Nat.min_eq_left h]
    exact List.take_of_length_le (by rw [List.length_drop]; omega)
  · rw [Nat.min_eq_right h, List.drop_of_length_le (Nat.le_refl _), List.drop_of_length_le h]
    simp
theorem cutV_to (xs : List V) (k : Nat) : cutV xs none (some (k : Int)) = xs.take k := by
  unfold cutV
  rw [HT.sIx_nat, HT.sIx_none, List.drop_zero, Nat.sub_zero]
  rcases Nat.le_total k xs.length with h | h
  · rw [Nat.min_eq_left h]
  · rw [Nat.min_eq_right h, List.take_of_length_le (Nat.le_refl _), List.take_of_length_le h]
theorem cutV_last (xs : List V) : cutV xs none (some (-1)) = xs.dropLast := by
  unfold cutV
  rw [HT.sIx_none, List.drop_zero, Nat.sub_zero]
  have : HT.sIx xs.length xs.length (some (-1)) = xs.length - 1 := by
    show (if (-1 : Int) < 0 then ((-1 : Int) + (xs.length : Int)).toNat else min (-1 : Int).toNat xs.length) = _
    rw [if_pos (by decide)]
    omega
  rw [this, List.dropLast_eq_take]
section
variable {K : PySem.W.Frag} {σ : L2.St} {H : Hp} {ta tb : TE}
theorem el_cat {xs ys : List V} (ha : EvL ta σ H xs) (hb : EvL tb σ H ys) (hl : xs.length + ys.length ≤ 100000) : EvL (tOp rCat ta tb) σ H (xs ++ ys) := fun H1 e Q q => ha H1 e _ fun p H2 np e2 hp => hb H2 (Ex.trans e e2) _ fun p' H3 np' e3 hp' =>
  ⟨p, p', xs, ys, rfl, rfl, e3 _ _ hp, hp', sz_of hl, fun r nr => q r _ (fresh_back (Ex.trans e2 e3) nr) ((e2.trans e3).trans (Ex.new nr)) upd_same⟩
theorem el_var {p : Addr} {xs : List V} {i : Nat} : True := trivial
theorem el_catV {p : Addr} {xs ys : List V} (ha : Ev ta σ H (.ref p)) (hp : H p = some (.lst xs)) (hb : EvL tb σ H ys) (hl : xs.length + ys.length ≤ 100000) : EvL (tOp rCat ta tb) σ H (xs ++ ys) := fun H1 e Q q => ha H1 e _ fun H2 e2 => hb H2 (Ex.trans e e2) _ fun p' H3 np' e3 hp' =>
  ⟨p, p', xs, ys, rfl, rfl, Ex.trans e (Ex.trans e2 e3) _ _ hp, hp', sz_of hl, fun r nr => q r _ (fresh_back (Ex.trans e2 e3) nr) ((e2.trans e3).trans (Ex.new nr)) upd_same⟩
theorem el_rev {p : Addr} {xs : List V} (ha : Ev ta σ H (.ref p)) (hp : H p = some (.lst xs)) : EvL (tRevL K ta) σ H xs.reverse := fun H1 e Q q => ha H1 e _ fun H2 e2 => ⟨p, xs, rfl, sq_of (Ex.trans e e2 _ _ hp), fun r nr => q r _ (fresh_back e2 nr) (e2.trans (Ex.new nr)) upd_same⟩
/-- a new work is told -/
def EvW (C : Addr) (te : TE) (σ : L2.St) (H : Hp) (nm : Str) (ws : List Str) : Prop := ∀ H1, Ex H H1 → ∀ Q : VK, (∀ q H2, H1 q = none → Ex H1 H2 → WkAt C H2 q nm ws → Q (.ref q) H2) → te σ H1 Q
theorem evw_mk {C : Addr} {nm : Str} {ws : List Str} (ha : Ev ta σ H (.str nm)) (hb : EvL tb σ H (ws.map V.str)) (hn : isW nm = true) (hw : WOk ws) : EvW C (tMake C (spWkInit C) [] E0 (tCons ta (tCons tb tNil))) σ H nm ws := fun H1 e Q q =>
  ha H1 e _ fun H2 e2 => hb H2 (Ex.trans e e2) _ fun p H3 np e3 hp => mkWk (R := fun x H' => Q (.ref x) H') hn hw (.inl hp) fun x H' nx s3 k => q x H' (fresh_back (Ex.trans e2 e3) nx) ((e2.trans e3).trans s3) k
theorem evw_mkV {C p : Addr} {nm : Str} {ws : List Str} (ha : Ev ta σ H (.str nm)) (hb : Ev tb σ H (.ref p)) (hp : SeqAt H p (ws.map V.str)) (hn : isW nm = true) (hw : WOk ws) : EvW C (tMake C (spWkInit C) [] E0 (tCons ta (tCons tb tNil))) σ H nm ws := fun H1 e Q q =>
  ha H1 e _ fun H2 e2 => hb H2 (Ex.trans e e2) _ fun H3 e3 => mkWk (R := fun x H' => Q (.ref x) H') hn hw (hp.elim (fun h => .inl (Ex.trans e (Ex.trans e2 e3) _ _ h)) fun h => .inr (Ex.trans e (Ex.trans e2 e3) _ _ h)) fun x H' nx s3 k => q x H' (fresh_back (Ex.trans e2 e3) nx) ((e2.trans e3).trans s3) k
theorem EvW.mono {C : Addr} {te : TE} {H' : Hp} {nm : Str} {ws : List Str} (e : Ex H H') (h : EvW C te σ H nm ws) : EvW C te σ H' nm ws := fun H1 a Q q => h H1 (e.trans a) Q q
end
theorem sq_go {te : TE} {g : TG} {tz : TS} {D : Ends} {σ : L2.St} {H : Hp} (h : te σ H fun v H1 => g v σ H1 (tz D)) : tSeq (tAsg te g) tz D σ H := h
section
variable {σ : L2.St} {H : Hp} {ta tb tc : TE} {Q : VK}
theorem go_lst1 (h : ta σ H fun v1 H1 => 1 ≤ sizeLine ∧ ∀ p, H1 p = none → Q (.ref p) (upd H1 p (.lst [v1]))) : tLst (tCons ta tNil) σ H Q := h
theorem go_lst2 (h : ta σ H fun v1 H1 => tb σ H1 fun v2 H2 => 2 ≤ sizeLine ∧ ∀ p, H2 p = none → Q (.ref p) (upd H2 p (.lst [v1, v2]))) : tLst (tCons ta (tCons tb tNil)) σ H Q := h
theorem go_lst3 (h : ta σ H fun v1 H1 => tb σ H1 fun v2 H2 => tc σ H2 fun v3 H3 => 3 ≤ sizeLine ∧ ∀ p, H3 p = none → Q (.ref p) (upd H3 p (.lst [v1, v2, v3]))) : tLst (tCons ta (tCons tb (tCons tc tNil))) σ H Q := h
theorem go_op {r : R2} (h : ta σ H fun x H1 => tb σ H1 fun y H2 => r x y H2 Q) : tOp r ta tb σ H Q := h
theorem go_var {i : Nat} {v : V} (h1 : σ[i]? = some (some v)) (h : Q v H) : tVar i σ H Q := ⟨v, h1, h⟩
end
/-! ### works from words -/
theorem wok_of {ws : List Str} (nd : ws.Nodup) (wd : ∀ x ∈ ws, isW x = true) (l0 : 0 < ws.length) (l1 : ws.length ≤ 60) : WOk ws := ⟨⟨rfl, nd, wd⟩, l0, l1⟩
theorem nodup_app {α : Type} {xs ys : List α} (h1 : xs.Nodup) (h2 : ys.Nodup) (h : ∀ x ∈ xs, x ∉ ys) : (xs ++ ys).Nodup := List.nodup_append.mpr ⟨h1, h2, fun a ha b hb e => h a ha (e ▸ hb)⟩
theorem wok_sub {ws vs : List Str} {q : Str} (h : WOk ws) (hs : vs.Sublist ws) (hq : q ∉ ws) (iq : isW q = true) (l : vs.length < 60) : WOk (vs ++ [q]) :=
  wok_of (nodup_app (h.ok.nd.sublist hs) (List.nodup_cons.mpr ⟨List.not_mem_nil, List.nodup_nil⟩) fun x hx z => hq (by rw [← List.mem_singleton.mp z]; exact hs.mem hx)) (fun x hx => (List.mem_append.mp hx).elim (fun z => h.ok.wd x (hs.mem z)) fun z => by rw [List.mem_singleton.mp z]; exact iq) (by simp) (by simp; omega)
theorem wok_mid {ws : List Str} {q : Str} {k : Nat} (h : WOk ws) (hk : k < ws.length) (hq : q ∉ ws) (iq : isW q = true) : WOk ((ws.take k ++ [q]) ++ ws.drop (k + 1)) := by
  have s1 := List.take_sublist k ws
  have s2 := List.drop_sublist (k + 1) ws
  refine wok_of (nodup_app (nodup_app (h.ok.nd.sublist s1) (List.nodup_cons.mpr ⟨List.not_mem_nil, List.nodup_nil⟩) fun x hx z => hq (by rw [← List.mem_singleton.mp z]; exact s1.mem hx)) (h.ok.nd.sublist s2) fun x hx hy => ?_) (fun x hx => ?_) (by simp; omega) (by have := h.l1; simp; omega)
  · rcases List.mem_append.mp hx with z | z
    · obtain ⟨i, hi, e1⟩ := List.mem_iff_getElem.mp z
      obtain ⟨j, hj, e2⟩ := List.mem_iff_getElem.mp hy
      rw [List.getElem_take] at e1
      rw [List.getElem_drop] at e2
      have hi' : i < k := by rw [List.length_take] at hi; omega
      have hj' : k + 1 + j < ws.length := by rw [List.length_drop] at hj; omega
      have := nd_ix h.ok.nd (i := i) (j := k + 1 + j) (x := x) (by rw [List.getElem?_eq_getElem (by omega), e1]) (by rw [List.getElem?_eq_getElem hj', e2])
      omega
    · rw [List.mem_singleton.mp z] at hy
      exact hq (s2.mem hy)
  · rcases List.mem_append.mp hx with z | z
    · rcases List.mem_append.mp z with z | z
      · exact h.ok.wd x (s1.mem z)
      · rw [List.mem_singleton.mp z]; exact iq
    · exact h.ok.wd x (s2.mem z)
theorem rev_ne {ws : List Str} (nd : ws.Nodup) (h : 1 < ws.length) : ¬ ws = ws.reverse := fun e => by
  have h1 : ws[0]? = ws.reverse[0]? := by rw [← e]
  rw [List.getElem?_reverse (by omega)] at h1
  have := nd_ix nd (i := 0) (j := ws.length - 1 - 0) (x := ws[0]) (by rw [List.getElem?_eq_getElem (by omega)]) (by rw [← h1, List.getElem?_eq_getElem (by omega)])
  omega
/-- other works than that of nm and ws -/
def OthW (C : Addr) (nm : Str) (ws : List Str) (H : Hp) (a : Addr) : Prop := ∃ nm' ws', WkAt C H a nm' ws' ∧ (∀ x ∈ ws', isW x = true) ∧ ¬ (nm = nm' ∧ ws = ws')
theorem OthW.same {C : Addr} {nm : Str} {ws : List Str} {H H' : Hp} {a : Addr} (h : OthW C nm ws H a) (e : Same H H') : OthW C nm ws H' a := let ⟨n, v, h1, h2, h3⟩ := h; ⟨n, v, h1.same e, h2, h3⟩
theorem OthW.kp {C st : Addr} {nm : Str} {ws : List Str} {H H' : Hp} {a : Addr} {xs : List V} (h : OthW C nm ws H a) (e : Kp st H H') (hs : H st = some (.lst xs)) : OthW C nm ws H' a := let ⟨n, v, h1, h2, h3⟩ := h; ⟨n, v, h1.kp e hs, h2, h3⟩
def rfs (as : List Addr) : List V := as.map V.ref
section
variable {P : Program} {w : World} {K : PySem.W.Frag} {mg : Str → Option Value} {base : Heap} {f : Addr} {fd : FuncData}
def spMany : Sp := fun vs H Q _ => ∃ (st c : Addr), vs = [.ref st] ∧ StAt H st c ∧ ∀ (m : Nat) H', 1 ≤ m → m ≤ 60 → StAt H' st c → Kp st H H' → Q (.int m) H'
abbrev s_many : Stmt := top 37
theorem sc_many : FnScope ["_law_state"] ["_law_state"] (defScope s_many) := ⟨rfl, rfl, rfl, by decide +kernel, rfl, by decide +kernel, by decide +kernel⟩
theorem ok_many {fO : Addr} {fdO : FuncData} (F : Fun K "_law_many" "_law_many" s_many f fd) (D_one : DefOk P w K mg base 3 "_law_one" fO fdO ["_law_state", "_law_things"] (spOneA K)) : FnOk P w K mg base CX0 4 f fd ["_law_state"] spMany := by
  refine F.ok sc_many (fun vs H Q E h => ?_) (fun cdv A outer s H vs Q E hr h => ?_)
  · obtain ⟨st, c, rfl, _⟩ := h
    rfl
  · obtain ⟨st, c, rfl, S, k⟩ := h
    refine ⟨_, (pss_one (ps_ret (pe_d D_one (hr.mono (by decide)) (pa_cons (pv 0) (pa_cons (pe_tup (pa_cons pe_int (pa_cons pe_int (pa_cons pe_int (pa_cons pe_int (pa_cons pe_int (pa_cons pe_int (pa_cons pe_int (pa_cons pe_int (pa_cons pe_int (pa_cons pe_int pa_nil))))))))))) pa_nil))))), ?_⟩
    refine ⟨_, rfl, by show 10 ≤ sizeLine; decide, fun t nt => ?_⟩
    refine ⟨st, c, t, _, rfl, S.same (Same.upd' nt), (S.of_new nt).1, .inr (SqT.of upd_same), by show 0 < 10; decide, by show 10 < _; decide, fun v H2 hv S2 e2 => ?_⟩
    have e3 : Kp st H H2 := (Kp.of (Same.upd' nt)).trans e2
    simp only [List.mem_cons, List.not_mem_nil, or_false] at hv
    rcases hv with rfl | rfl | rfl | rfl | rfl | rfl | rfl | rfl | rfl | rfl
    · exact k 1 H2 (by decide) (by decide) S2 e3
    · exact k 2 H2 (by decide) (by decide) S2 e3
    · exact k 3 H2 (by decide) (by decide) S2 e3
    · exact k 4 H2 (by decide) (by decide) S2 e3
    · exact k 5 H2 (by decide) (by decide) S2 e3
    · exact k 6 H2 (by decide) (by decide) S2 e3
    · exact k 8 H2 (by decide) (by decide) S2 e3
    · exact k 12 H2 (by decide) (by decide) S2 e3
    · exact k 30 H2 (by decide) (by decide) S2 e3
    · exact k 60 H2 (by decide) (by decide) S2 e3
def spHanded : Sp := fun vs H Q _ => ∃ (st c a : Addr) (xs : List V), vs = [.ref st, .ref a] ∧ StAt H st c ∧ a ≠ st ∧ H a = some (.lst xs) ∧ ∀ p H', H p = none → StAt H' st c → Kp st H H' → SeqAt H' p xs → Q (.ref p) H'
abbrev s_handed : Stmt := top 38
theorem sc_handed : FnScope ["_law_state", "_law_things"] ["_law_state", "_law_things"] (defScope s_handed) := ⟨rfl, rfl, rfl, by decide +kernel, rfl, by decide +kernel, by decide +kernel⟩
theorem ok_handed {fT : Addr} {fdT : FuncData} (F : Fun K "_law_handed" "_law_handed" s_handed f fd) (T : Blt mg) (D_take : DefOk P w K mg base 2 "_law_take" fT fdT ["_law_state", "_law_many_here"] spTake) : FnOk P w K mg base CX0 3 f fd ["_law_state", "_law_things"] spHanded := by
  refine F.ok sc_handed (fun vs H Q E h => ?_) (fun cdv A outer s H vs Q E hr h => ?_)
  · obtain ⟨st, c, a, xs, rfl, _⟩ := h
    rfl
  · obtain ⟨st, c, a, xs, rfl, S, hn, ha, k⟩ := h
    refine ⟨_, (pss_one (ps_ret (pe_ifExp (pt_cmpR op_eq (pe_d D_take (hr.mono (by decide)) (pa_cons (pv 0) (pa_cons pe_int pa_nil))) pe_int (nomark _)) (pe_callTy call_list_of (by rfl) T.b_list (by decide +kernel) (pa_cons (pv 1) pa_nil)) (pe_callTy call_tuple_of (by rfl) T.b_tuple (by decide +kernel) (pa_cons (pv 1) pa_nil))))), ?_⟩
    refine ⟨_, rfl, st, c, 2, rfl, S, by decide, by decide, fun d H2 d0 d1 S2 e2 => ?_⟩
    have ha2 := e2 _ _ hn ha
    refine ⟨rfl, _, rfl, ite2 (fun _ => ?_) (fun _ => ?_)⟩
    · exact ⟨_, rfl, a, xs, rfl, .inl (SqL.of ha2), fun l nl => k l _ (e2.free (S2.of_new nl).1 nl) (S2.same (Same.upd' nl)) (e2.trans (Kp.of (Same.upd' nl))) (.inl upd_same)⟩
    · exact ⟨_, rfl, a, xs, rfl, .inl ⟨SqL.of ha2, fun l nl => k l _ (e2.free (S2.of_new nl).1 nl) (S2.same (Same.upd' nl)) (e2.trans (Kp.of (Same.upd' nl))) (.inr upd_same)⟩⟩
/-- all but a list at p stays -/
def KpL (p : Addr) (H H' : Hp) : Prop := ∀ b o, H b = some o → (b = p → ∀ xs, o ≠ .lst xs) → H' b = some o
theorem WkAt.kpl {C p : Addr} {H H' : Hp} {a : Addr} {nm : Str} {ws : List Str} (k : WkAt C H a nm ws) (e : KpL p H H') : WkAt C H' a nm ws := by
  obtain ⟨⟨dx, t, d, h1, h2, h3⟩⟩ := k
  exact ⟨⟨dx, t, d, e _ _ h1 (fun _ _ z => nomatch z), e _ _ h2 (fun _ _ z => nomatch z), e _ _ h3 (fun _ _ z => nomatch z)⟩⟩
theorem EdAt.kpl {CW CE p : Addr} {H H' : Hp} {a wk : Addr} {nm : Str} {ws : List Str} {S : Nat → Bool} (k : EdAt CW CE H a wk nm ws S) (e : KpL p H H') : EdAt CW CE H' a wk nm ws S := by
  obtain ⟨⟨dx, t, u, v, h1, h2, h3, h4⟩, h5⟩ := k
  exact ⟨⟨dx, t, u, v, e _ _ h1 (fun _ _ z => nomatch z), e _ _ h2 (fun _ _ z => nomatch z), e _ _ h3 (fun _ _ z => nomatch z), e _ _ h4 (fun _ _ z => nomatch z)⟩, h5.kpl e⟩
theorem StAt.kpl {H H' : Hp} {st c p : Addr} (S : StAt H st c) (e : KpL p H H') (h1 : p ≠ st) (h2 : p ≠ c) : StAt H' st c := by
  obtain ⟨⟨n, l, b, g1⟩, ⟨ns, g2, g3⟩, ne⟩ := S
  exact ⟨⟨n, l, b, e _ _ g1 (fun z => (h1 z.symm).elim)⟩, ⟨ns, e _ _ g2 (fun z => (h2 z.symm).elim), g3⟩, ne⟩
def spSpoilt : Sp := fun vs H Q _ => ∃ (p : Addr) (xs : List V), vs = [.ref p] ∧ SeqAt H p xs ∧ xs.length ≤ 60 ∧ ∀ H', KpL p H H' → Q .non H'
abbrev s_spoilt : Stmt := top 39
theorem sc_spoilt : FnScope ["_law_things"] ["_law_things"] (defScope s_spoilt) := ⟨rfl, rfl, rfl, by decide +kernel, rfl, by decide +kernel, by decide +kernel⟩
theorem ok_spoilt (F : Fun K "_law_spoilt" "_law_spoilt" s_spoilt f fd) (T : Blt mg) : FnOk P w K mg base CX0 1 f fd ["_law_things"] spSpoilt := by
  refine F.ok sc_spoilt (fun vs H Q E h => ?_) (fun cdv A outer s H vs Q E hr h => ?_)
  · obtain ⟨p, xs, rfl, _⟩ := h
    rfl
  · obtain ⟨p, xs, rfl, hq, hl, k⟩ := h
    refine ⟨_, (pss_one (ps_if (pt_val (pe_callB call_isi (by rfl) T.b_isinstance (by decide +kernel) (pa_cons (pv 0) (pa_cons (pe_bltn (v := .ty "list") (u := .type "list") (by rfl) T.b_list (by decide +kernel) rfl) pa_nil)))) (pss_cons (ps_expr (pe_bm PySem.F.plainAttrs_list PySem.F.slot_list_append PySem.F.type_list_append mt_append (pv 0) (pa_cons pe_str pa_nil)))
        (pss_one (ps_asg pe_str (pg_sub (pv 0) pe_int set_list)))) pss_nil)), ?_⟩
    rcases hq with hq | hq
    · refine s_when (b := true) (et_B (ev_isi (ev_var rfl) (.ty _) (fun _ e => .base (.lst (e _ _ hq))) (kit_ty (by decide +kernel)))) (fun _ H1 e1 => ?_) (fun z => nomatch z)
      refine q_app (e1 _ _ hq) (ev_var rfl) ev_c (by omega) fun H2 e2 => ?_
      refine s_setL (j := 0) upd_same ev_c (ev_var rfl) ev_c (by simp) fun H3 e3 => ?_
      refine k _ fun b o hb hn => ?_
      have hbp : b ≠ p := fun z => by
        subst z
        rw [hq] at hb
        exact hn rfl xs (Option.some.inj hb).symm
      rw [upd_ne hbp]
      refine e3 _ _ ?_
      rw [upd_ne hbp]
      exact e2 _ _ (e1 _ _ hb)
    · refine s_when (b := false) (et_B (ev_isi (ev_var rfl) (.ty _) (fun _ e => .base (.tup (e _ _ hq))) (kit_ty (by decide +kernel)))) (fun z => nomatch z) (fun _ H1 e1 => ?_)
      exact k _ fun b o hb _ => e1 _ _ hb
def spOthers (C : Addr) : Sp := fun vs H Q _ => ∃ (st c r : Addr) (nm : Str) (ws : List Str), vs = [.ref st, .str nm, .ref r] ∧ StAt H st c ∧ r ≠ st ∧ H r = some (.lst (ws.map V.str)) ∧ WOk ws ∧ isW nm = true ∧ nm ≠ "q" ∧ ("q" : Str) ∉ ws ∧
  ∀ p as H', H p = none → StAt H' st c → Kp st H H' → H' p = some (.lst (rfs as)) → as.length ≤ 10 → (∀ a ∈ as, OthW C nm ws H' a) → Q (.ref p) H'
def OthM (C st : Addr) (nm : Str) (ws : List Str) (r : Addr) (H : Hp) (n : Nat) (σ : L2.St) (H' : Hp) : Prop := ∃ l as, σ = [some (.ref st), some (.str nm), some (.ref r), some (.ref l), none] ∧ Same H H' ∧ H l = none ∧ H' l = some (.lst (rfs as)) ∧ as.length ≤ n ∧ ∀ a ∈ as, OthW C nm ws H' a
theorem iq : isW "q" = true := by decide +kernel
end
end Lm

namespace Lm
open PySem L2 Evl RZ
/-- an object that is no integer -/
def NoNum (K : PySem.W.Frag) (H : Hp) (x : V) : Prop := ∃ (t : String) (b1 b2 : Bool), (∀ H', Ex H H' → TyX K H' x (.type t)) ∧ kitB t "int" = some b1 ∧ kitB t "bool" = some b2 ∧ (b1 && !b2) = false
theorem NoNum.ex {K : PySem.W.Frag} {H H' : Hp} {x : V} (e : Ex H H') (h : NoNum K H x) : NoNum K H' x := let ⟨t, b1, b2, h1, h2⟩ := h; ⟨t, b1, b2, fun H2 e2 => h1 H2 (Ex.trans e e2), h2⟩
/-- … that is no cut of so many -/
def NoCut (K : PySem.W.Frag) (H : Hp) (N : Nat) (x : V) : Prop := (∃ i : Int, x = .int i ∧ ¬ (0 ≤ i ∧ i ≤ (N : Int))) ∨ NoNum K H x
theorem NoCut.ex {K : PySem.W.Frag} {H H' : Hp} {N : Nat} {x : V} (e : Ex H H') (h : NoCut K H N x) : NoCut K H' N x := h.elim .inl fun h => .inr (h.ex e)
/-- what is kept for an own error's __init__ -/
structure ErrI (P : Program) (w : World) (K : PySem.W.Frag) (mg : Str → Option Value) (base : Heap) (C fI : Addr) (fdI : FuncData) (fn : Str) : Prop where
  ok : FnOk P w K mg base CX0 1 fI fdI ["self", fn] (spErrI C fn)
  bd : Binds K fdI ["self", fn] []
section
variable {P : Program} {w : World} {K : PySem.W.Frag} {mg : Str → Option Value} {base : Heap} {f : Addr} {fd : FuncData}
def spIsNumA (K : PySem.W.Frag) : Sp := fun vs H Q _ => ∃ (x : V) (t : String) (b1 b2 : Bool), vs = [x] ∧ (∀ H', Ex H H' → TyX K H' x (.type t)) ∧ kitB t "int" = some b1 ∧ kitB t "bool" = some b2 ∧ ∀ H', Same H H' → Q (.bl (b1 && !b2)) H'
theorem ok_is_numberA (F : Fun K "is_number" "is_number" s_is_number f fd) (T : Blt mg) : FnOk P w K mg base CX0 1 f fd ["x"] (spIsNumA K) := by
  refine F.ok sc_is_number (fun vs H Q E h => ?_) (fun cdv A outer s H vs Q E hr h => ?_)
  · obtain ⟨x, t, b1, b2, rfl, _⟩ := h
    rfl
  · obtain ⟨x, t, b1, b2, rfl, ty, h1, h2, k⟩ := h
    refine ⟨_, (pss_one (ps_ret (pe_and (pe_callB call_isi (by rfl) T.b_isinstance (by decide +kernel) (pa_cons (pv 0) (pa_cons (pe_bltn (v := .ty "int") (u := .type "int") (by rfl) T.b_int (by decide +kernel) rfl) pa_nil))) (pe_one (pe_not (pe_callB call_isi (by rfl) T.b_isinstance (by decide +kernel) (pa_cons (pv 0) (pa_cons (pe_bltn (v := .ty "bool") (u := .type "bool") (by rfl) T.b_bool (by decide +kernel) rfl) pa_nil)))))))), ?_⟩
    exact s_ret (ev_andV (ev_isi (ev_var rfl) (.ty _) ty (kit_ty h1)) fun _ => ev_notV (ev_isi (ev_var rfl) (.ty _) ty (kit_ty h2))) fun H1 e1 => k H1 e1
def spUpToA (K : PySem.W.Frag) : Sp := fun vs H Q _ => ∃ (x : V) (m : Int), vs = [x, .int m] ∧ ((∃ i : Int, x = .int i ∧ ∀ H', Same H H' → Q (.bl (decide (0 ≤ i ∧ i ≤ m))) H') ∨ (NoNum K H x ∧ ∀ H', Same H H' → Q (.bl false) H'))
theorem ok_is_up_toA {fN : Addr} {fdN : FuncData} (F : Fun K "is_up_to" "is_up_to" s_is_up_to f fd) (T : Blt mg) (D_is_number : DefOk P w K mg base 1 "is_number" fN fdN ["x"] (spIsNumA K)) : FnOk P w K mg base CX0 2 f fd ["x", "most"] (spUpToA K) := by
  refine F.ok sc_is_up_to (fun vs H Q E h => ?_) (fun cdv A outer s H vs Q E hr h => ?_)
  · obtain ⟨x, m, rfl, _⟩ := h
    rfl
  · obtain ⟨x, m, rfl, k⟩ := h
    refine ⟨_, (pss_one (ps_ret (pe_and (pe_d D_is_number (hr.mono (by decide)) (pa_cons (pv 0) pa_nil)) (pe_one (pe_chain op_le op_le pe_int (pv 0) (pv 1)))))), ?_⟩
    rcases k with ⟨i, rfl, k⟩ | ⟨⟨t, b1, b2, ty, h1, h2, hb⟩, k⟩
    · refine ⟨_, rfl, .int i, "int", true, false, rfl, fun H' _ => .base (.int i), by decide +kernel, by decide +kernel, fun H1 e1 => ?_⟩
      refine ⟨true, rfl, iteT ?_⟩
      refine ⟨_, rfl, _, _, rfl, rfl, _, rfl, ite2 (fun h0 => ?_) (fun h0 => ?_)⟩
      · have h0 := of_decide_eq_true h0
        refine ⟨_, rfl, _, _, rfl, rfl, ?_⟩
        have e : decide (i ≤ m) = decide (0 ≤ i ∧ i ≤ m) := by simp [h0]
        have q : Q (.bl (decide (i ≤ m))) H1 := by rw [e]; exact k H1 e1
        exact q
      · have h0 : ¬ (0 ≤ i) := fun z => h0 (decide_eq_true z)
        have e : decide (0 ≤ i ∧ i ≤ m) = false := by simp [h0]
        have q := k H1 e1
        rw [e] at q; exact q
    · refine ⟨_, rfl, x, t, b1, b2, rfl, ty, h1, h2, fun H1 e1 => ?_⟩
      rw [hb]
      exact ⟨_, rfl, k H1 e1⟩
/-! ### a call that is refused -/
abbrev s_BadCut_init : Stmt := inClass (top 14) 0
theorem sc_BadCut_init : FnScope ["self", "number"] ["self", "number"] (defScope s_BadCut_init) := ⟨rfl, rfl, rfl, by decide +kernel, rfl, by decide +kernel, by decide +kernel⟩
theorem ok_bad_cut {C : Addr} (F : Fun K "__init__" "BadCut.__init__" s_BadCut_init f fd) (T : OexC K C) (hno : PySem.W.findIn K (.ref C) "number" = some none) : FnOk P w K mg base CX0 1 f fd ["self", "number"] (spErrI C "number") := by
  refine F.ok sc_BadCut_init (fun vs H Q E h => ?_) (fun cdv A outer s H vs Q E hr h => ?_)
  · obtain ⟨a, v, rfl, _⟩ := h
    rfl
  · obtain ⟨a, v, rfl, ha, k⟩ := h
    refine ⟨_, (pss_one (ps_ost (pv 0) (pv 1) rfl)), ?_⟩
    exact ⟨_, rfl, _, rfl, a, C, rfl, T, hno, .inl ⟨ha, fun dx ndx hda => k dx ndx hda⟩⟩
/-- C(x), raised -/
theorem pmk_errF {X : Cx} {x fn : Str} {C fI : Addr} {fdI : FuncData} {e : Expr} {te : TE} {p pos : Pos} (T : ErrF X.K X.mg x C fI fn) (I : ErrI X.prog X.w X.K X.mg X.base C fI fdI fn) (hr : Room 2 X.A) (ha : PA X [e] (tCons te tNil)) (hg : Gl X x := by rfl) (hdb : (x == ("__debug__" : Str)) = false := by decide)
    (hst : starEach [e] X.env = (false, eval e X.env) :: starEach [] X.env := by rfl) (hpl : (backTo pos (starEach [] X.env)).any (·.1) = false := by rfl) : PMk X (.Call (.Name x p) [e] [] pos) (tMkO C (spErrI C fn) [] (tCons te tNil)) :=
  pmk_oex T.T T.ini T.ty I.ok hr I.bd .nil pass0 hg T.g ha hdb hst hpl
def spReqCutX (K : PySem.W.Frag) (CW CB : Addr) : Sp := fun vs H Q E => ∃ (wk : Addr) (x : V) (nm : Str) (ws : List Str), vs = [x, .ref wk] ∧ WkAt CW H wk nm ws ∧ ws.length ≤ 60 ∧ NoCut K H ws.length x ∧ ∀ H' d, Same H H' → H' d = none → E (.ref CB) (some d) (upd H' d (.xd [("number", x)]))
theorem ok_req_cutX {CW CB fU fL fI : Addr} {fdU fdL fdI : FuncData} (F : Fun K "require_cut" "require_cut" s_require_cut f fd) (T : Blt mg) (TB : ErrF K mg "BadCut" CB fI "number") (IB : ErrI P w K mg base CB fI fdI "number") (D_is_up_to : DefOk P w K mg base 2 "is_up_to" fU fdU ["x", "most"] (spUpToA K)) (M_Work_len : MetOk P w K mg base 1 CW "__len__" fL fdL ["self"] (spWkLen CW)) :
    FnOk P w K mg base (L2.CX P w) 3 f fd ["cut", "work"] (spReqCutX K CW CB) := by
  refine F.okX sc_require_cut (fun vs H Q E h => ?_) (fun cdv A outer s H vs Q E hr h => ?_)
  · obtain ⟨wk, x, nm, ws, rfl, _⟩ := h
    rfl
  · obtain ⟨wk, x, nm, ws, rfl, kw, l1, hx, k⟩ := h
    obtain ⟨dx, t, d, h1, h2, h3⟩ := id kw.ob
    refine ⟨_, (pss_one (ps_if (pt_not (pt_val (pe_d D_is_up_to (hr.mono (by decide)) (pa_cons (pv 0) (pa_cons (pe_callB (M_Work_len.len (hr.mono (by decide))) (by rfl) T.b_len PySem.boot_len (pa_cons (pv 1) pa_nil)) pa_nil))))) (pss_one (ps_raise rfl (takes_of rfl rfl rfl rfl) (pmk_errF TB IB (hr.mono (by decide)) (pa_cons (pv 0) pa_nil)))) pss_nil)), ?_⟩
    refine ⟨_, rfl, _, rfl, wk, dx, _, rfl, h1, wk, nm, ws, rfl, kw, ws.length, rfl, by omega, x, _, rfl, ?_⟩
    have fin : ∀ H1, Same H H1 → tMkO CB (spErrI CB "number") [] (tCons (tVar 0) tNil) [some x, some (.ref wk)] H1 (fun cls d H' => E cls d H') := fun H1 e1 => go_mkO (ev_var rfl) fun H2 d e2 nd => k H2 d (Same.trans e1 e2) nd
    rcases hx with ⟨i, rfl, hi⟩ | hx
    · exact .inl ⟨i, rfl, fun H1 e1 => ⟨_, rfl, by rw [decide_eq_false hi]; exact fin H1 e1⟩⟩
    · exact .inr ⟨hx, fun H1 e1 => ⟨_, rfl, fin H1 e1⟩⟩
end
end Lm

namespace Lm
open PySem L2 Evl RZ
section
variable {P : Program} {w : World} {K : PySem.W.Frag} {mg : Str → Option Value} {base : Heap} {f : Addr} {fd : FuncData}
/-! ### a walk, called -/
def spWaCall (CW CE CV : Addr) : Sp := fun vs H Q _ => ∃ (a wk : Addr) (nm : Str) (ws : List Str) (Ss : List (Nat → Bool)) (c : Nat), vs = [.ref a, .int c] ∧ WaAt CW CE CV H a wk nm ws Ss ∧ c ≤ ws.length ∧ ∀ H', Same H H' → Q (.int (tellW Ss c : Nat)) H'
abbrev s_Walk_call : Stmt := inClass (top 25) 9
theorem sc_Walk_call : FnScope ["self", "cut"] ["self", "cut"] (defScope s_Walk_call) := ⟨rfl, rfl, rfl, by decide +kernel, rfl, by decide +kernel, by decide +kernel⟩
theorem ok_wa_call {CW CE CV fC fT : Addr} {fdC fdT : FuncData} (F : Fun K "__call__" "Walk.__call__" s_Walk_call f fd) (W : WaTxt K CV) (D_require_cut : DefOk P w K mg base 3 "require_cut" fC fdC ["cut", "work"] (spReqCut CW)) (D_told_behind : DefOk P w K mg base 2 "told_behind" fT fdT ["steps", "cuts"] (spTold CW CE)) :
    FnOk P w K mg base CX0 4 f fd ["self", "cut"] (spWaCall CW CE CV) := by
  refine F.ok sc_Walk_call (fun vs H Q E h => ?_) (fun cdv A outer s H vs Q E hr h => ?_)
  · obtain ⟨a, wk, nm, ws, Ss, c, rfl, _⟩ := h
    rfl
  · obtain ⟨a, wk, nm, ws, Ss, c, rfl, ha, hc, k⟩ := h
    obtain ⟨dx, t, es, h1, h2, h3⟩ := id ha.ob
    refine ⟨_, (pss_cons (ps_expr (pe_d D_require_cut (hr.mono (by decide)) (pa_cons (pv 1) (pa_cons (pe_fld (pv 0) rfl) pa_nil))))
        (pss_one (ps_ret (pe_ix ix_list (pe_d D_told_behind (hr.mono (by decide)) (pa_cons (pe_fld (pv 0) rfl) (pa_cons (pe_lst (pa_cons (pv 1) pa_nil)) pa_nil))) pe_int (fun _ _ => rfl))))), ?_⟩
    have ew : Ev (tFld K (tVar 0) "work") [some (.ref a), some (.int c)] H (.ref wk) := fun H2 e2 Q q => ⟨_, rfl, a, CV, dx, _, _, rfl, e2 _ _ h1, W.cl, W.nK, wa_work _ _, q H2 (Ex.refl _)⟩
    refine q_reqcut (ev_var rfl) ew ha.wk ha.ok.l1 hc fun H1 e1 => ?_
    have et : EvL (tCall (spTold CW CE) [] E0 (tCons (tFld K (tVar 0) "steps") (tCons (tLst (tCons (tVar 1) tNil)) tNil))) [some (.ref a), some (.int c)] H1 (nts [tellW Ss c]) := fun H2 e2 Q q => by
      have E12 := Ex.trans e1 e2
      refine ⟨_, rfl, a, CV, dx, _, _, rfl, E12 _ _ h1, W.cl, W.nS, wa_steps _ _, _, rfl, by show 1 ≤ sizeLine; decide, fun p np => ?_⟩
      refine ⟨t, p, es, nm, ws, Ss, [c], rfl, Ex.new np _ _ (E12 _ _ h2), (h3.same E12).same (Ex.new np), ha.ok, upd_same, fun x hx => by rw [List.mem_singleton.mp hx]; exact hc, by show 1 ≤ 100; decide, fun r H' hr s hr' => q r H' ?_ (Ex.trans (Ex.new np) s) hr'⟩
      rcases hr with rfl | hr
      · exact np
      · exact Same.free (Ex.new np) hr
    exact s_ret (ev_opL1 et (fun H2 e2 => ev_c) fun p H2 hp e2 => rv_ixL (v := .int (tellW Ss c : Nat)) (i := ((0 : Nat) : Int)) (sq_of hp) (atI_nat rfl)) fun H2 e2 => k H2 (Same.trans e1 e2)
def spWaCallX (K : PySem.W.Frag) (CW CE CV CB : Addr) : Sp := fun vs H Q E => ∃ (a wk : Addr) (nm : Str) (ws : List Str) (Ss : List (Nat → Bool)) (x : V), vs = [.ref a, x] ∧ WaAt CW CE CV H a wk nm ws Ss ∧ NoCut K H ws.length x ∧ ∀ H' d, Same H H' → H' d = none → E (.ref CB) (some d) (upd H' d (.xd [("number", x)]))
theorem ok_wa_callX {CW CE CV CB fC fT : Addr} {fdC fdT : FuncData} (F : Fun K "__call__" "Walk.__call__" s_Walk_call f fd) (W : WaTxt K CV) (D_require_cut : DefOkX P w K mg base 3 "require_cut" fC fdC ["cut", "work"] (spReqCutX K CW CB)) (D_told_behind : DefOk P w K mg base 2 "told_behind" fT fdT ["steps", "cuts"] (spTold CW CE)) :
    FnOk P w K mg base (L2.CX P w) 4 f fd ["self", "cut"] (spWaCallX K CW CE CV CB) := by
  refine F.okX sc_Walk_call (fun vs H Q E h => ?_) (fun cdv A outer s H vs Q E hr h => ?_)
  · obtain ⟨a, wk, nm, ws, Ss, x, rfl, _⟩ := h
    rfl
  · obtain ⟨a, wk, nm, ws, Ss, x, rfl, ha, hx, k⟩ := h
    obtain ⟨dx, t, es, h1, h2, h3⟩ := id ha.ob
    refine ⟨_, (pss_cons (ps_expr (pe_dX D_require_cut (hr.mono (by decide)) (passes_call (takes_of rfl rfl rfl rfl) (fun _ _ _ _ h => h)) (pa_cons (pv 1) (pa_cons (pe_fld (pv 0) rfl) pa_nil))))
        (pss_one (ps_ret (pe_ix ix_list (pe_d D_told_behind (hr.mono (by decide)) (pa_cons (pe_fld (pv 0) rfl) (pa_cons (pe_lst (pa_cons (pv 1) pa_nil)) pa_nil))) pe_int (fun _ _ => rfl))))), ?_⟩
    exact ⟨_, rfl, _, rfl, a, CV, dx, _, _, rfl, h1, W.cl, W.nK, wa_work _ _, wk, x, nm, ws, rfl, ha.wk, ha.ok.l1, hx, fun H' d s nd => k H' d s nd⟩
def spWaLen (CW CE CV : Addr) : Sp := fun vs H Q _ => ∃ (a wk : Addr) (nm : Str) (ws : List Str) (Ss : List (Nat → Bool)), vs = [.ref a] ∧ WaAt CW CE CV H a wk nm ws Ss ∧ Q (.int (Ss.length : Nat)) H
abbrev s_Walk_len : Stmt := inClass (top 25) 10
theorem sc_Walk_len : FnScope ["self"] ["self"] (defScope s_Walk_len) := ⟨rfl, rfl, rfl, by decide +kernel, rfl, by decide +kernel, by decide +kernel⟩
theorem ok_wa_len {CW CE CV : Addr} (F : Fun K "__len__" "Walk.__len__" s_Walk_len f fd) (T : Blt mg) (W : WaTxt K CV) : FnOk P w K mg base CX0 1 f fd ["self"] (spWaLen CW CE CV) := by
  refine F.ok sc_Walk_len (fun vs H Q E h => ?_) (fun cdv A outer s H vs Q E hr h => ?_)
  · obtain ⟨a, wk, nm, ws, Ss, rfl, _⟩ := h
    rfl
  · obtain ⟨a, wk, nm, ws, Ss, rfl, ha, k⟩ := h
    obtain ⟨dx, t, es, h1, h2, h3⟩ := id ha.ob
    refine ⟨_, (pss_one (ps_ret (pe_callB call_len_seq (by rfl) T.b_len PySem.boot_len (pa_cons (pe_fld (pv 0) rfl) pa_nil)))), ?_⟩
    refine ⟨_, rfl, a, CV, dx, _, _, rfl, h1, W.cl, W.nS, wa_steps _ _, t, _, rfl, .inr (SqT.of h2), ?_⟩
    rw [refs_len, h3.len]
    exact k
def spWaEds (CW CE CV : Addr) : Sp := fun vs H Q _ => ∃ (a wk : Addr) (nm : Str) (ws : List Str) (Ss : List (Nat → Bool)), vs = [.ref a] ∧ WaAt CW CE CV H a wk nm ws Ss ∧ ∀ p es H', H p = none → Same H H' → H' p = some (.lst (refs es)) → EdsAt CW CE H' es nm ws Ss → Q (.ref p) H'
abbrev s_Walk_editions : Stmt := inClass (top 25) 1
theorem sc_Walk_editions : FnScope ["self"] ["self"] (defScope s_Walk_editions) := ⟨rfl, rfl, rfl, by decide +kernel, rfl, by decide +kernel, by decide +kernel⟩
theorem ok_wa_eds {CW CE CV : Addr} (F : Fun K "editions" "Walk.editions" s_Walk_editions f fd) (T : Blt mg) (W : WaTxt K CV) : FnOk P w K mg base CX0 1 f fd ["self"] (spWaEds CW CE CV) := by
  refine F.ok sc_Walk_editions (fun vs H Q E h => ?_) (fun cdv A outer s H vs Q E hr h => ?_)
  · obtain ⟨a, wk, nm, ws, Ss, rfl, _⟩ := h
    rfl
  · obtain ⟨a, wk, nm, ws, Ss, rfl, ha, k⟩ := h
    obtain ⟨dx, t, es, h1, h2, h3⟩ := id ha.ob
    refine ⟨_, (pss_one (ps_ret (pe_callTy call_list_of (by rfl) T.b_list (by decide +kernel) (pa_cons (pe_fld (pv 0) rfl) pa_nil)))), ?_⟩
    exact ⟨_, rfl, a, CV, dx, _, _, rfl, h1, W.cl, W.nS, wa_steps _ _, t, _, rfl, .inr (SqT.of h2), fun p np => k p es _ np (Same.upd' np) upd_same (h3.same (Same.upd' np))⟩
/-! ### what a call is refused with -/
def spRefused (K : PySem.W.Frag) (CW CE CV : Addr) : Sp := fun vs H Q _ => ∃ (a wk : Addr) (nm : Str) (ws : List Str) (Ss : List (Nat → Bool)) (x : V), vs = [.ref a, x] ∧ WaAt CW CE CV H a wk nm ws Ss ∧ NoCut K H ws.length x ∧ ∀ p H', H p = none → Same H H' → H' p = some (.lst [x]) → Q (.ref p) H'
abbrev s_refused : Stmt := top 46
theorem sc_refused : FnScope ["_law_made", "_law_x", "_law_found", "e"] ["_law_made", "_law_x"] (defScope s_refused) := ⟨rfl, rfl, rfl, by decide +kernel, rfl, by decide +kernel, by decide +kernel⟩
theorem ok_refused {CW CE CV CB fI fC : Addr} {fdC : FuncData} (F : Fun K "_law_refused" "_law_refused" s_refused f fd) (TB : ErrF K mg "BadCut" CB fI "number") (M_Walk_callX : MetOkX P w K mg base 4 CV "__call__" fC fdC ["self", "cut"] (spWaCallX K CW CE CV CB)) (hfn : PySem.W.fnIn K fC = true) :
    FnOk P w K mg base CX0 5 f fd ["_law_made", "_law_x"] (spRefused K CW CE CV) := by
  refine F.ok sc_refused (fun vs H Q E h => ?_) (fun cdv A outer s H vs Q E hr h => ?_)
  · obtain ⟨a, wk, nm, ws, Ss, x, rfl, _⟩ := h
    rfl
  · obtain ⟨a, wk, nm, ws, Ss, x, rfl, ha, hx, k⟩ := h
    obtain ⟨dx, t, es, h1, h2, h3⟩ := id ha.ob
    have CM : CallM K CV fC := ⟨M_Walk_callX.mt.at_, M_Walk_callX.mt.fn, hfn⟩
    refine ⟨_, (pss_cons (ps_set (i := 2) sc_refused.nd rfl (by first | exact Or.inl rfl | exact Or.inr rfl) (pe_lst pa_nil))
        (pss_cons (ps_try_as (c := .ref CB) (i := 3) (tb := fun W => tDrop (tCallO 0 CV (spWaCallX K CW CE CV CB) (WE W) (tCons (tVar 1) tNil))) (ts := fun a cls d => tAsg (tLst (tCons (tXf a cls d CB "number" (tVar 3)) tNil)) (gName 2)) (Wout := fun _ _ _ _ => False) rfl rfl sc_refused.nd rfl rfl ⟨rfl, by decide, Or.inl TB.g⟩ L2.takes0
          (fun W pn xe tk _ => pss_one (ps_expr (by exact (pe_callO M_Walk_callX.ok CM (hr.mono (by decide)) M_Walk_callX.bd (fun σ => passAt tk σ) rfl (by first | exact Or.inl rfl | exact Or.inr (Or.inl rfl) | exact Or.inr (Or.inr rfl)) (pa_cons (pv 1) pa_nil)))))
          (fun a oe cls d pn hz hf => pss_one (ps_set (i := 2) sc_refused.nd rfl (by first | exact Or.inl rfl | exact Or.inr rfl) (pe_lst (pa_cons (pe_xf TB.X TB.no hz hf (pv 3)) pa_nil)))))
        (pss_one (ps_ret (pv 2))))), ?_⟩
    refine ⟨by show 0 ≤ sizeLine; decide, fun l nl => ?_⟩
    have e1 := Same.upd' nl (o := .lst [])
    refine ⟨a, rfl, x, rfl, ⟨dx, _, e1 _ _ h1⟩, a, wk, nm, ws, Ss, x, rfl, ha.same e1, hx.ex e1, fun H2 d e2 nd => ⟨true, TB.exm, fun _ b nb => ?_, fun z => nomatch z⟩⟩
    refine ⟨_, rfl, rfl, rfl, d, _, x, rfl, upd_same, by simp [List.lookup], by show 1 ≤ sizeLine; decide, fun p np => ⟨_, rfl, ?_⟩⟩
    have e3 : Same H (upd (upd H2 d (.xd [("number", x)])) p (.lst [x])) := Same.trans (Same.trans (Same.trans e1 e2) (Same.upd' nd)) (Same.upd' np)
    exact k p _ (Same.free (Same.trans (Same.trans e1 e2) (Same.upd' nd)) np) e3 upd_same
end
end Lm

namespace Lm
open PySem L2 Evl RZ
section
variable {K : PySem.W.Frag} {CW CE CV : Addr} {σ : L2.St} {H : Hp} {ta tb tc te : TE} {tz : TS} {D : Ends} {a wk : Addr} {nm : Str} {ws : List Str} {Ss : List (Nat → Bool)} {c : Nat}
theorem ev_callO {i : Nat} (hi : σ[i]? = some (some (.ref a))) (h2 : Ev ta σ H (.int c)) (ha : WaAt CW CE CV H a wk nm ws Ss) (hc : c ≤ ws.length) : Ev (tCallO i CV (spWaCall CW CE CV) (fun _ => E0) (tCons ta tNil)) σ H (.int (tellW Ss c : Nat)) := fun H1 e1 Q q => by
  refine ⟨a, hi, h2 H1 e1 _ fun H2 e2 => ?_⟩
  have k2 := ha.same (Ex.trans e1 e2)
  obtain ⟨dx, t, es, o1, _⟩ := id k2.ob
  exact ⟨⟨dx, _, o1⟩, a, wk, nm, ws, Ss, c, rfl, k2, hc, fun H3 e3 => q H3 (Ex.trans e2 e3)⟩
theorem ev_callOk {i : Nat} (hi : σ[i]? = some (some (.ref a))) (h2 : Ev ta σ H (.int c)) (ha : WaAt CW CE CV H a wk nm ws Ss) (hc : c ≤ ws.length) : Ev (tCallOk i CV 1 (spWaCall CW CE CV) oneR E0 (tCons ta tNil)) σ H (.int (tellW Ss c : Nat)) := fun H1 e1 Q q => by
  refine ⟨a, hi, h2 H1 e1 _ fun H2 e2 => ?_⟩
  have k2 := ha.same (Ex.trans e1 e2)
  obtain ⟨dx, t, es, o1, _⟩ := id k2.ob
  exact ⟨⟨dx, _, o1⟩, rfl, a, wk, nm, ws, Ss, c, rfl, k2, hc, fun H3 e3 => q H3 (Ex.trans e2 e3)⟩
theorem ev_walen (h : Ev ta σ H (.ref a)) (ha : WaAt CW CE CV H a wk nm ws Ss) (hl : Ss.length ≤ 1000) : Ev (tCB (rLenOwn CV (spWaLen CW CE CV) E0) (tCons ta tNil)) σ H (.int (Ss.length : Nat)) := fun H1 e1 Q k => h H1 e1 _ fun H2 e2 => by
  have k2 := ha.same (Ex.trans e1 e2)
  obtain ⟨dx, t, es, o1, _⟩ := id k2.ob
  exact ⟨a, dx, _, rfl, o1, a, wk, nm, ws, Ss, rfl, k2, Ss.length, rfl, by omega, k H2 e2⟩
theorem ev_sameI {d : Nat} {i : Int} (h1 : Ev ta σ H (.int i)) (h2 : Ev tb σ H (.int i)) : Ev (tCall (spSame (d + 1)) [] E0 (tCons ta (tCons tb tNil))) σ H (.bl true) := fun H1 e Q q =>
  h1 H1 e _ fun H2 e2 => h2 H2 (Ex.trans e e2) _ fun H3 e3 => ⟨.int i, .int i, rfl, .int i, fun H4 s4 => q H4 (Ex.trans e2 (Ex.trans e3 s4))⟩
theorem ev_sameL {d : Nat} {xs : List V} (h1 : EvL ta σ H xs) (h2 : EvL tb σ H xs) (hl : xs.length ≤ 40000) (h : ∀ H', Ex H H' → ∀ x ∈ xs, SameV H' d x x) : Ev (tCall (spSame (d + 1)) [] E0 (tCons ta (tCons tb tNil))) σ H (.bl true) := fun H1 e Q q =>
  h1 H1 e _ fun p H2 np e2 hp => h2 H2 (Ex.trans e e2) _ fun p' H3 np' e3 hp' => ⟨.ref p, .ref p', rfl, .lst (e3 _ _ hp) hp' rfl hl fun i u v hu hv => by
    rw [hu] at hv
    cases (Option.some.inj hv)
    exact h H3 (Ex.trans e (Ex.trans e2 e3)) u (List.mem_of_getElem? hu), fun H4 s4 => q H4 (Ex.trans e2 (Ex.trans e3 s4))⟩
/-- [a list, a new list] and [x, x], of the same numbers -/
theorem ev_same22 {p q : Addr} {l : List Nat} (h1 : Ev ta σ H (.ref p)) (hp : H p = some (.lst (nts l))) (h2 : EvL tb σ H (nts l)) (h3 : Ev tc σ H (.ref q)) (hq : H q = some (.lst (nts l))) (hl : l.length ≤ 40000) :
    Ev (tCall (spSame 3) [] E0 (tCons (tLst (tCons ta (tCons tb tNil))) (tCons (tLst (tCons tc (tCons tc tNil))) tNil))) σ H (.bl true) := fun H0 e0 Q qq => by
  refine h1 H0 e0 (fun v1 G1 => tb σ G1 fun v2 G2 => 2 ≤ sizeLine ∧ ∀ p, G2 p = none → tCons (tLst (tCons tc (tCons tc tNil))) tNil σ (upd G2 p (.lst [v1, v2])) fun vs G4 => spSame 3 (.ref p :: vs ++ []) G4 Q E0) fun H1 e1 => ?_
  refine h2 H1 (Ex.trans e0 e1) _ fun u H2 nu e2 hu => ⟨by show 2 ≤ sizeLine; decide, fun r nr => ?_⟩
  have e3 := Ex.new nr (o := .lst [.ref p, .ref u])
  have hr : (upd H2 r (.lst [.ref p, .ref u])) r = some (.lst [.ref p, .ref u]) := upd_same
  have hu3 := e3 _ _ hu
  have E3 := Ex.trans e1 (Ex.trans e2 e3)
  generalize upd H2 r (.lst [.ref p, .ref u]) = H3 at e3 hr hu3 E3
  refine h3 H3 (Ex.trans e0 E3) (fun v1 G1 => tc σ G1 fun v2 G2 => 2 ≤ sizeLine ∧ ∀ p', G2 p' = none → spSame 3 (.ref r :: [.ref p'] ++ []) (upd G2 p' (.lst [v1, v2])) Q E0) fun H4 e4 => h3 H4 (Ex.trans e0 (Ex.trans E3 e4)) _ fun H5 e5 => ⟨by show 2 ≤ sizeLine; decide, fun r' nr' => ?_⟩
  have e6 := Ex.new nr' (o := .lst [.ref q, .ref q])
  have hr' : (upd H5 r' (.lst [.ref q, .ref q])) r' = some (.lst [.ref q, .ref q]) := upd_same
  have E46 := Ex.trans e4 (Ex.trans e5 e6)
  generalize upd H5 r' (.lst [.ref q, .ref q]) = H6 at e6 hr' E46
  have hq6 := Ex.trans e0 (Ex.trans E3 E46) _ _ hq
  have hp6 := Ex.trans e0 (Ex.trans E3 E46) _ _ hp
  have fl : ∀ x ∈ nts l, SameV H6 1 x x := fun x hx => by
    obtain ⟨n, _, rfl⟩ := List.mem_map.mp hx
    exact .int _
  refine ⟨.ref r, .ref r', rfl, .lst (E46 _ _ hr) hr' rfl (by show 2 ≤ 40000; decide) fun i v w hv hw => ?_, fun H7 s7 => qq H7 (Ex.trans E3 (Ex.trans E46 s7))⟩
  match i, hv, hw with
  | 0, hv, hw => cases hv; cases hw; exact .flat (d := 0) hp6 hq6 (by rw [nts_len]; exact hl) fl
  | 1, hv, hw => cases hv; cases hw; exact .flat (d := 0) (E46 _ _ hu3) hq6 (by rw [nts_len]; exact hl) fl
  | i + 2, hv, hw => simp at hv
/-- the table and the editions -/
theorem q_tabEds {i j : Nat} (h1 : Ev ta σ H (.ref a)) (ha : WaAt CW CE CV H a wk nm ws Ss) (k : ∀ tb to es H1, H tb = none → H to = none → tb ≠ to → Ex H H1 → H1 tb = some (.lst (nts (tbl ws.length (tellW Ss)))) → H1 to = some (.lst (refs es)) → EdsAt CW CE H1 es nm ws Ss → tz D ((σ.set i (some (.ref tb))).set j (some (.ref to))) H1) :
    tSeq (tPar i j (tCons (tMeth CV "table" (spWaTable CW CE CV) [] E0 ta tNil) (tCons (tMeth CV "editions" (spWaEds CW CE CV) [] E0 ta tNil) tNil))) tz D σ H := by
  refine go_table ha h1 H (Ex.refl H) (fun v1 G1 => tMeth CV "editions" (spWaEds CW CE CV) [] E0 ta tNil σ G1 fun v2 G2 => ∃ v w, [v1, v2] = [v, w] ∧ tz D ((σ.set i (some v)).set j (some w)) G2) fun tb H1 ntb e1 htb => ?_
  refine h1 H1 e1 _ fun H2 e2 => ?_
  have k2 := ha.same (Ex.trans e1 e2)
  obtain ⟨dx, t, es, o1, _⟩ := id k2.ob
  refine ⟨a, dx, _, rfl, o1, wa_no _ _ (by decide +kernel) (by decide +kernel), a, wk, nm, ws, Ss, rfl, k2, fun to es H3 nto e3 hto hE => ?_⟩
  have htb2 := e2 _ _ htb
  exact ⟨_, _, rfl, k tb to es _ ntb (Same.free (Ex.trans e1 e2) nto) (ne_of_none htb2 nto) (Ex.trans (Ex.trans e1 e2) e3) (e3 _ _ htb2) hto hE⟩
/-- an edition is another one of the same truths -/
theorem ev_edEq {e e' : Addr} {S : Nat → Bool} {wk' : Addr} (h1 : Ev ta σ H (.ref e)) (h2 : Ev tb σ H (.ref e')) (hw : WOk ws) (he : EdAt CW CE H e wk nm ws S) (he' : EdAt CW CE H e' wk' nm ws S) : Ev (tOp (rBinOwn CE (spEdEqA K CW CE) E0) ta tb) σ H (.bl true) := fun H1 x1 Q q => h1 H1 x1 _ fun H2 x2 => h2 H2 (Ex.trans x1 x2) _ fun H3 x3 => by
  have k1 := he.same (Ex.trans x1 (Ex.trans x2 x3))
  have k2 := he'.same (Ex.trans x1 (Ex.trans x2 x3))
  obtain ⟨dx, t, u, v, o1, _⟩ := id k1.ob
  obtain ⟨dy, t', u', v', o2, _⟩ := id k2.ob
  refine ⟨e, dx, _, e', dy, _, rfl, rfl, o1, o2, e, wk, _, nm, ws, S, rfl, k1, hw.ok.wd, .inl ⟨e', wk', nm, ws, S, rfl, k2, hw.ok.wd, ?_⟩⟩
  have : decide ((nm = nm ∧ ws = ws) ∧ pick ws S = pick ws S) = true := by simp
  rw [this]
  exact q H3 (Ex.trans x2 x3)
theorem nts_tblY (N : Nat) (T : Nat → Nat) : nts (tbl N T) = (List.range (N + 1)).map fun k => V.int (T k : Nat) := by
  unfold nts tbl
  rw [List.map_map]
  rfl
/-- a refused call, told -/
theorem el_refused {x : V} (h1 : Ev ta σ H (.ref a)) (h2 : Ev tb σ H x) (ha : WaAt CW CE CV H a wk nm ws Ss) (hx : NoCut K H ws.length x) : EvL (tCall (spRefused K CW CE CV) [] E0 (tCons ta (tCons tb tNil))) σ H [x] := fun H1 e1 Q q =>
  h1 H1 e1 _ fun H2 e2 => h2 H2 (Ex.trans e1 e2) _ fun H3 e3 => ⟨a, wk, nm, ws, Ss, x, rfl, ha.same (Ex.trans e1 (Ex.trans e2 e3)), hx.ex (Ex.trans e1 (Ex.trans e2 e3)), fun p H4 np e4 hp => q p H4 (fresh_back (Ex.trans e2 e3) np) (Ex.trans e2 (Ex.trans e3 e4)) hp⟩
/-- the objects that are no cuts -/
theorem go_bad {N : Nat} (hN : N ≤ 60) (h6 : σ[6]? = some (some (.int (N : Nat)))) {Q : VK}
    (k : ∀ p xs H2, Ex H H2 → H2 p = some (.lst xs) → (∀ x ∈ xs, NoCut K H2 N x ∧ SameV H2 2 x x) → Q (.ref p) H2) :
    tLst (tCons (tUn (rU fun i => .int (-i)) (tC (.int 1))) (tCons (tOp (rI0 fun i j => .int (i + j)) (tVar 6) (tC (.int 1))) (tCons (tC (.bl true)) (tCons (tC (.bl false)) (tCons (tC .non) (tCons (tC (.str "0")) (tCons (tTup (tCons (tC (.int 0)) tNil)) (tCons (tLst (tCons (tC (.int 1)) tNil)) (tCons tDNewK (tCons (tOp (rI CPow fun i j => .int (i ^ j.toNat)) (tC (.int 10)) (tC (.int 20))) (tCons (tC (.str "")) tNil))))))))))) σ H Q := by
  refine ⟨_, rfl, ?_⟩
  refine ⟨_, h6, _, _, rfl, rfl, ?_⟩
  refine ⟨by show 1 ≤ sizeLine; decide, fun tu ntu => ⟨by show 1 ≤ sizeLine; decide, fun li nli => ?_⟩⟩
  intro dc ndc
  refine ⟨_, _, rfl, rfl, ⟨by decide, by decide, by decide⟩, ?_⟩
  refine ⟨by show 11 ≤ sizeLine; decide, fun p np => ?_⟩
  have s1 := Ex.new ntu (o := .tup [.int 0])
  have htu : (upd H tu (.tup [.int 0])) tu = some (.tup [.int 0]) := upd_same
  generalize upd H tu (.tup [.int 0]) = H1 at *
  have s2 := Ex.new nli (o := .lst [.int 1])
  have hli : (upd H1 li (.lst [.int 1])) li = some (.lst [.int 1]) := upd_same
  generalize upd H1 li (.lst [.int 1]) = H2 at *
  have s3 := Ex.new ndc (o := .dK [])
  have hdc : (upd H2 dc (.dK [])) dc = some (.dK []) := upd_same
  generalize upd H2 dc (.dK []) = H3 at *
  have htu3 := s3 _ _ (s2 _ _ htu)
  have hli3 := s3 _ _ hli
  refine k p _ _ (Ex.trans s1 (Ex.trans s2 (Ex.trans s3 (Ex.new np)))) upd_same ?_
  have s4 := Ex.new np (o := .lst [.int (-1), .int ((N : Int) + 1), .bl true, .bl false, .non, .str "0", .ref tu, .ref li, .ref dc, .int ((10 : Int) ^ (20 : Int).toNat), .str ""])
  have htu4 := s4 _ _ htu3
  have hli4 := s4 _ _ hli3
  have hdc4 := s4 _ _ hdc
  have big : ((10 : Int) ^ (20 : Int).toNat) = 100000000000000000000 := by decide
  intro x hx
  simp only [List.mem_cons, List.not_mem_nil, or_false] at hx
  rcases hx with rfl | rfl | rfl | rfl | rfl | rfl | rfl | rfl | rfl | rfl | rfl
  · exact ⟨.inl ⟨_, rfl, by omega⟩, .int _⟩
  · exact ⟨.inl ⟨_, rfl, by omega⟩, .int _⟩
  · exact ⟨.inr ⟨"bool", true, true, fun _ _ => .base (.bl _), by decide +kernel, by decide +kernel, rfl⟩, .bl _⟩
  · exact ⟨.inr ⟨"bool", true, true, fun _ _ => .base (.bl _), by decide +kernel, by decide +kernel, rfl⟩, .bl _⟩
  · exact ⟨.inr ⟨"NoneType", false, false, fun _ _ => .base .non, by decide +kernel, by decide +kernel, rfl⟩, .non⟩
  · exact ⟨.inr ⟨"str", false, false, fun _ _ => .base (.str _), by decide +kernel, by decide +kernel, rfl⟩, .str _⟩
  · refine ⟨.inr ⟨"tuple", false, false, fun _ e => .base (.tup (e _ _ htu4)), by decide +kernel, by decide +kernel, rfl⟩, .tup htu4 htu4 rfl (by show 1 ≤ 40000; decide) fun i u v hu hv => ?_⟩
    match i, hu, hv with
    | 0, hu, hv => cases hu; cases hv; exact .int _
    | i + 1, hu, hv => simp at hu
  · refine ⟨.inr ⟨"list", false, false, fun _ e => .base (.lst (e _ _ hli4)), by decide +kernel, by decide +kernel, rfl⟩, .lst hli4 hli4 rfl (by show 1 ≤ 40000; decide) fun i u v hu hv => ?_⟩
    match i, hu, hv with
    | 0, hu, hv => cases hu; cases hv; exact .int _
    | i + 1, hu, hv => simp at hu
  · exact ⟨.inr ⟨"dict", false, false, fun _ e => .base (.dK (e _ _ hdc4)), by decide +kernel, by decide +kernel, rfl⟩, .dct hdc4⟩
  · exact ⟨.inl ⟨_, rfl, by rw [big]; omega⟩, .int _⟩
  · exact ⟨.inr ⟨"str", false, false, fun _ _ => .base (.str _), by decide +kernel, by decide +kernel, rfl⟩, .str _⟩
end
section
variable {K : PySem.W.Frag} {σ : L2.St} {H : Hp}
theorem s_forBad {te : TE} {g : TG} {tu : TS} {D : Ends} {Pb : List V → Hp → Prop} (h : ∀ Q : VK, (∀ p xs H2, Ex H H2 → H2 p = some (.lst xs) → Pb xs H2 → Q (.ref p) H2) → te σ H Q)
    (k : ∀ p xs H2, Ex H H2 → H2 p = some (.lst xs) → Pb xs H2 → ∃ Pv : Nat → L2.St → Hp → Prop, Pv 0 σ H2 ∧ (∀ i σ' H', Pv i σ' H' → SqL K H' p xs) ∧ (∀ i x σ' H', xs[i]? = some x → Pv i σ' H' → g x σ' H' fun σ2 H2 => tu { D with nx := Pv (i + 1), ct := Pv (i + 1), bk := D.nx } σ2 H2) ∧ (∀ σ' H', Pv xs.length σ' H' → D.nx σ' H')) : tFor (iList K te) g tu D σ H :=
  h _ fun p xs H2 e hp hb => by
    obtain ⟨Pv, a, b, c, d⟩ := k p xs H2 e hp hb
    exact ⟨p, rfl, ⟨xs, b 0 σ H2 a⟩, for_list Pv a (fun i σ' H' _ q => b i σ' H' q) c d⟩
end
/-! ### the walk is made, by place or by name -/
theorem WaAt.kpl {CW CE CV p : Addr} {H H' : Hp} {a wk : Addr} {nm : Str} {ws : List Str} {Ss : List (Nat → Bool)} (k : WaAt CW CE CV H a wk nm ws Ss) (e : KpL p H H') : WaAt CW CE CV H' a wk nm ws Ss := by
  obtain ⟨⟨dx, t, es, h1, h2, h3⟩, h4, h5⟩ := k
  exact ⟨⟨dx, t, es, e _ _ h1 (by intro _ xs z; cases z), e _ _ h2 (by intro _ xs z; cases z), ⟨h3.len, fun i b S q1 q2 => let ⟨w', q⟩ := h3.at_ i b S q1 q2; ⟨w', q.kpl e⟩⟩⟩, h4.kpl e, h5⟩
section
variable {K : PySem.W.Frag} {CW CE CV : Addr} {σ : L2.St} {H : Hp} {wk : Addr} {ws : List Str} {Ss : List (Nat → Bool)}
theorem go_made {st c hp : Addr} {es : List Addr} {Q : VK} (s1 : σ[1]? = some (some (.ref st))) (s4 : σ[4]? = some (some (.ref wk))) (s9 : σ[9]? = some (some (.ref hp))) (S : StAt H st c) (hwk : WkAt CW H wk "a" ws) (hw : WOk ws) (hne : hp ≠ st) (hhp : SeqAt H hp (refs es)) (hE : EdsAt CW CE H es "a" ws Ss)
    (k : ∀ x H', H x = none → StAt H' st c → Kp st H H' → WaAt CW CE CV H' x wk "a" ws Ss → Q (.ref x) H') :
    tIf (tTest (tOp rEq (tCall spTake [] E0 (tCons (tVar 1) (tCons (tC (.int 2)) tNil))) (tC (.int 0)))) (tMake CV (spWaInit CW CE CV) [] E0 (tCons (tVar 4) (tCons (tVar 9) tNil))) (tMakeK CV 0 2 (spWaInit CW CE CV) swapR E0 tNil (tCons (tVar 9) (tCons (tVar 4) tNil))) σ H Q := by
  obtain ⟨xs0, hst⟩ := S.neL
  refine ⟨_, s1, st, c, 2, rfl, S, by decide, by decide, fun d H2 d0 d1 S2 e2 => ?_⟩
  have hwk2 := hwk.kp e2 hst
  have hE2 := hE.kp e2 hst
  have hhp2 : SeqAt H2 hp (refs es) := hhp.elim (fun h => .inl (e2 _ _ hne h)) fun h => .inr (e2 _ _ hne h)
  have fin : ∀ x H3, H2 x = none → Same H2 H3 → WaAt CW CE CV H3 x wk "a" ws Ss → Q (.ref x) H3 := fun x H3 nx e3 hx => k x H3 (e2.free (S2.of_new nx).1 nx) (S2.same e3) (e2.trans (Kp.of e3)) hx
  refine ⟨rfl, _, rfl, ite2 (fun _ => ?_) (fun _ => ?_)⟩
  · exact ⟨_, s4, _, s9, mkWa hwk2 hw hhp2 hE2 fin⟩
  · refine ⟨_, s9, _, s4, rfl, rfl, ?_⟩
    exact mkWa hwk2 hw hhp2 hE2 fin
end
end Lm

namespace Lm
open PySem L2 Evl RZ
section
variable {P : Program} {w : World} {K : PySem.W.Frag} {mg : Str → Option Value} {base : Heap} {f : Addr} {fd : FuncData}
abbrev s_law : Stmt := top 47
theorem sc_law : FnScope ["_law_script", "_law_state", "_law_turn", "_law_rows_here", "_law_base_here", "_law_twin", "_law_many_here", "_law_some", "_law_there", "_law_handed_here", "_law_made", "_law_due", "_law_again", "_law_table_here", "_law_told", "_law_x", "_law_numbers", "_law_y", "_law_k"] ["_law_script"] (defScope s_law) := ⟨rfl, rfl, rfl, by decide +kernel, rfl, by decide +kernel, by decide +kernel⟩
theorem ok_law {CW CE CV f1 f2 f3 f4 f5 f6 f7 f8 f9 g1 g2 g3 g4 g5 g6 g7 g8 : Addr} {d1 d2 d3 d4 d5 d6 d7 d8 d9 b1 b2 b3 b4 b5 b6 b7 b8 : FuncData} (F : Fun K "law" "law" s_law f fd) (T : Blt mg) (WT : WkTxt K CW) (ET : EdTxt K CE) (VT : WaTxt K CV)
    (D_fresh : DefOk P w K mg base 1 "_law_fresh" f1 d1 ["_law_script"] (spFresh K)) (D_take : DefOk P w K mg base 2 "_law_take" f2 d2 ["_law_state", "_law_many_here"] spTake) (D_one : DefOk P w K mg base 3 "_law_one" f3 d3 ["_law_state", "_law_things"] (spOneA K)) (D_many : DefOk P w K mg base 4 "_law_many" f4 d4 ["_law_state"] spMany) (D_base : DefOk P w K mg base 4 "_law_base" f5 d5 ["_law_state", "_law_many_here"] (spBase CW))
    (D_rows : DefOk P w K mg base 5 "_law_rows" f6 d6 ["_law_state", "_law_many_here", "_law_most"] spRows) (D_edition : DefOk P w K mg base 6 "_law_edition" f7 d7 ["_law_base_here", "_law_rows_here", "_law_numbers"] (spEdn CW CE)) (D_handed : DefOk P w K mg base 3 "_law_handed" f8 d8 ["_law_state", "_law_things"] spHanded) (D_spoilt : DefOk P w K mg base 1 "_law_spoilt" f9 d9 ["_law_things"] spSpoilt)
    (D_table : DefOk P w K mg base 2 "_law_table" g1 b1 ["_law_some", "_law_many_here"] spTableL) (D_same : DefOk P w K mg base 3 "_law_same" g2 b2 ["_law_found", "_law_due"] (spSame 3)) (D_refused : DefOk P w K mg base 5 "_law_refused" g3 b3 ["_law_made", "_law_x"] (spRefused K CW CE CV))
    (K_Walk : ClsOk P w K mg base 3 "Walk" CV g4 b4 ["self", "work", "editions"] (spWaInit CW CE CV)) (B_Walk : KBn K b4 ["self", "work", "editions"] 1 ["editions", "work"] swapR swapR) (M_Walk_table : MetOk P w K mg base 3 CV "table" g5 b5 ["self"] (spWaTable CW CE CV)) (M_Walk_editions : MetOk P w K mg base 1 CV "editions" g6 b6 ["self"] (spWaEds CW CE CV))
    (M_Walk_len : MetOk P w K mg base 1 CV "__len__" g7 b7 ["self"] (spWaLen CW CE CV)) (M_Walk_call : MetOk P w K mg base 4 CV "__call__" g8 b8 ["self", "cut"] (spWaCall CW CE CV)) (B_Walk_call : KBn K b8 ["self", "cut"] 1 ["cut"] oneR oneR) (CM : CallM K CV g8) {h1 : Addr} {c1 : FuncData} (M_Edition_eq : MetOk P w K mg base 2 CE "__eq__" h1 c1 ["self", "other"] (spEdEqA K CW CE)) : FnOk P w K mg base CX0 8 f fd ["_law_script"] (spLaw K) := by
  refine F.ok sc_law (fun vs H Q E h => ?_) (fun cdv A outer s H vs Q E hr h => ?_)
  · obtain ⟨a, ns, rfl, _⟩ := h
    rfl
  · obtain ⟨a, ns, rfl, hS, hl, k⟩ := h
    have D_room : Room 3 _ := hr.mono (by decide)
    refine ⟨_, (pss_cons (ps_set (i := 1) sc_law.nd rfl (by first | exact Or.inl rfl | exact Or.inr rfl) (pe_d D_fresh (hr.mono (by decide)) (pa_cons (pv 0) pa_nil)))
        (pss_cons (ps_for PassesOwn.never rfl (pi_range1 rfl T.b_range (pa_cons pe_int pa_nil)) (pg_name (i := 2) sc_law.nd rfl (by first | exact Or.inl rfl | exact Or.inr rfl)) (pss_cons (ps_asg (pe_d D_base (hr.mono (by decide)) (pa_cons (pv 1) (pa_cons (pe_d D_many (hr.mono (by decide)) (pa_cons (pv 1) pa_nil)) pa_nil))) (pg_tup rfl (pgs_cons (pg_name (i := 3) sc_law.nd rfl (by first | exact Or.inl rfl | exact Or.inr rfl)) (pgs_cons (pg_name (i := 4) sc_law.nd rfl (by first | exact Or.inl rfl | exact Or.inr rfl)) (pgs_cons (pg_name (i := 5) sc_law.nd rfl (by first | exact Or.inl rfl | exact Or.inr rfl)) pgs_nil)))))
        (pss_cons (ps_par (i := 6) (j := 7) (by rfl) sc_law.nd rfl rfl (by decide) rfl rfl (pa_cons (pe_callB call_len_seq (by rfl) T.b_len PySem.boot_len (pa_cons (pv 3) pa_nil)) (pa_cons (pe_d D_rows (hr.mono (by decide)) (pa_cons (pv 1) (pa_cons (pe_callB call_len_seq (by rfl) T.b_len PySem.boot_len (pa_cons (pv 3) pa_nil)) (pa_cons (pe_d D_one (hr.mono (by decide)) (pa_cons (pv 1) (pa_cons (pe_tup (pa_cons pe_int (pa_cons pe_int (pa_cons pe_int (pa_cons pe_int (pa_cons pe_int pa_nil)))))) pa_nil))) pa_nil)))) pa_nil)) (by rfl))
        (Evl.pss_cut (ps_if (PW.pt (pw_and (pt_cmpR op_lt (pv 6) pe_int (nomark _)) (pw_and1 (pt_cmpR op_eq (pe_d D_take (hr.mono (by decide)) (pa_cons (pv 1) (pa_cons pe_int pa_nil))) pe_int (nomark _))))) (pss_one (ps_set (i := 7) sc_law.nd rfl (by first | exact Or.inl rfl | exact Or.inr rfl) (pe_d D_rows (hr.mono (by decide)) (pa_cons (pv 1) (pa_cons (pv 6) (pa_cons pe_int pa_nil)))))) pss_nil)
        (pss_cons (ps_setLc (i := 8) (own := [("_law_numbers", 16)]) (g := gName 16) (tt := tYes) (te := (tCall (spEdn CW CE) [] E0 (tCons (tCall (spOneA K) [] E0 (tCons (tVar 1) (tCons (tLst (tCons (tVar 4) (tCons (tVar 5) tNil))) tNil))) (tCons (tVar 3) (tCons (tVar 16) tNil))))) rfl sc_law.nd rfl rfl (sw_true rfl rfl rfl (by decide +kernel)) (pi_list (pv 7)) (blkOk_by (own := [("_law_numbers", 16)]) (by kernel_rfl)) (fun _ _ _ _ _ => (pg_name (i := 16) sc_law.nd rfl (by first | exact Or.inl rfl | exact Or.inr rfl))) (fun _ _ _ _ _ => pts_nil) (fun _ _ _ _ _ => by exact (pe_d D_edition (hr.mono (by decide)) (pa_cons (pe_d D_one (hr.mono (by decide)) (pa_cons (pv 1) (pa_cons (pe_lst (pa_cons (pv 4) (pa_cons (pv 5) pa_nil))) pa_nil))) (pa_cons (pv 3) (pa_cons (pv 16) pa_nil))))))
        (pss_cons (ps_set (i := 9) sc_law.nd rfl (by first | exact Or.inl rfl | exact Or.inr rfl) (pe_d D_handed (hr.mono (by decide)) (pa_cons (pv 1) (pa_cons (pv 8) pa_nil))))
        (pss_cons (ps_set (i := 10) sc_law.nd rfl (by first | exact Or.inl rfl | exact Or.inr rfl) (pe_ifExp (pt_cmpR op_eq (pe_d D_take (hr.mono (by decide)) (pa_cons (pv 1) (pa_cons pe_int pa_nil))) pe_int (nomark _)) (pe_mk K_Walk (hr.mono (by decide)) (pa_cons (pv 4) (pa_cons (pv 9) pa_nil))) (pe_mkK K_Walk B_Walk (hr.mono (by decide)) (pk_cons (pv 9) (pk_cons (pv 4) pk_nil)))))
        (Evl.pss_cut (ps_if (pt_cmpR op_gt (pe_callB call_len_seq (by rfl) T.b_len PySem.boot_len (pa_cons (pv 7) pa_nil)) pe_int (nomark _)) (pss_one (ps_expr (pe_d D_spoilt (hr.mono (by decide)) (pa_cons (pv 9) pa_nil)))) pss_nil)
        (pss_cons (ps_set (i := 11) sc_law.nd rfl (by first | exact Or.inl rfl | exact Or.inr rfl) (pe_d D_table (hr.mono (by decide)) (pa_cons (pv 7) (pa_cons (pv 6) pa_nil))))
        (pss_cons (ps_for PassesOwn.never rfl (pi_range1 rfl T.b_range (pa_cons pe_int pa_nil)) (pg_name (i := 12) sc_law.nd rfl (by first | exact Or.inl rfl | exact Or.inr rfl)) (pss_cons (ps_par (i := 13) (j := 14) (by rfl) sc_law.nd rfl rfl (by decide) rfl rfl (pa_cons (pe_m0 M_Walk_table (hr.mono (by decide)) (pv 10)) (pa_cons (pe_m0 M_Walk_editions (hr.mono (by decide)) (pv 10)) pa_nil)) (by rfl))
        (pss_cons (ps_if (pt_not (pt_val (pe_d D_same D_room (by exact (pa_cons (pe_lst (by exact (pa_cons (pv 13) (pa_cons (pe_lc (own := [("_law_k", 18)]) (g := gName 18) (tt := tYes) (te := (tCallO 10 CV (spWaCall CW CE CV) (fun _ => E0) (tCons (tVar 18) tNil))) rfl sc_law.nd (pi_range1 rfl T.b_range (pa_cons (pe_op op_add (pv 6) pe_int) pa_nil)) (blkOk_by (own := [("_law_k", 18)]) (by kernel_rfl)) (fun _ _ _ _ _ => (pg_name (i := 18) sc_law.nd rfl (by first | exact Or.inl rfl | exact Or.inr rfl))) (fun _ _ _ _ _ => pts_nil) (fun _ _ _ _ _ => by exact (pe_callO M_Walk_call.ok CM (hr.mono (by decide)) M_Walk_call.bd (fun σ pins H s e s2 I c => pass0 pins σ H s e s2 I c) rfl (by first | exact Or.inl rfl | exact Or.inr (Or.inl rfl) | exact Or.inr (Or.inr rfl)) (pa_cons (pv 18) pa_nil)))) pa_nil)))) (pa_cons (pe_lst (pa_cons (pv 11) (pa_cons (pv 11) pa_nil))) pa_nil)))))) (pss_one (ps_ret pe_bl)) pss_nil)
        (pss_cons (ps_if (PW.pt (pw_or (pt_not (pt_val (pe_d D_same D_room (pa_cons (pe_callB (M_Walk_len.len (hr.mono (by decide))) (by rfl) T.b_len PySem.boot_len (pa_cons (pv 10) pa_nil)) (pa_cons (pe_callB call_len_seq (by rfl) T.b_len PySem.boot_len (pa_cons (pv 7) pa_nil)) pa_nil))))) (pw_or (pt_not (pt_val (pe_callB call_isi (by rfl) T.b_isinstance (by decide +kernel) (pa_cons (pv 14) (pa_cons (pe_bltn (v := .ty "list") (u := .type "list") (by rfl) T.b_list (by decide +kernel) rfl) pa_nil))))) (pw_or1 (pt_cmpR op_ne (pe_callB call_len_seq (by rfl) T.b_len PySem.boot_len (pa_cons (pv 14) pa_nil)) (pe_callB call_len_seq (by rfl) T.b_len PySem.boot_len (pa_cons (pv 7) pa_nil)) (nomark _)))))) (pss_one (ps_ret pe_bl)) pss_nil)
        (pss_cons (ps_if (pt_not (pt_val (pe_callB (cr_all rfl) (by rfl) T.b_all (by decide +kernel) (by exact (pa_cons (pe_lc (own := [("_law_x", 15), ("_law_y", 17)]) (g := gTup K 2 (gCons (gName 15) (gCons (gName 17) gNil))) (tt := tYes) (te := (tOp (rBinOwn CE (spEdEqA K CW CE) E0) (tVar 15) (tVar 17))) rfl sc_law.nd (pi_zipA rfl T.b_zip (pa_cons (pv 14) (pa_cons (pv 8) pa_nil))) (blkOk_by (own := [("_law_x", 15), ("_law_y", 17)]) (by kernel_rfl)) (fun _ _ _ _ _ => (pg_tup rfl (pgs_cons (pg_name (i := 15) sc_law.nd rfl (by first | exact Or.inl rfl | exact Or.inr rfl)) (pgs_cons (pg_name (i := 17) sc_law.nd rfl (by first | exact Or.inl rfl | exact Or.inr rfl)) pgs_nil)))) (fun _ _ _ _ _ => pts_nil) (fun _ _ _ _ _ => by exact (pe_cmpR (M_Edition_eq.eq (hr.mono (by decide))) (pv 15) (pv 17) (nomark _)))) pa_nil))))) (pss_one (ps_ret pe_bl)) pss_nil)
        (pss_cons (ps_expr (pe_bm0 PySem.F.plainAttrs_list PySem.F.slot_list_clear PySem.F.type_list_clear mt_clear (pv 13)))
        (pss_one (ps_expr (pe_bm PySem.F.plainAttrs_list PySem.F.slot_list_append PySem.F.type_list_append mt_append (pv 14) (pa_cons pe_non pa_nil))))))))))
        (pss_cons (ps_if (pt_not (pt_val (pe_d D_same D_room (pa_cons (pe_callOk (i := 10) M_Walk_call.ok CM (hr.mono (by decide)) B_Walk_call pass0 rfl (by first | exact Or.inl rfl | exact Or.inr (Or.inl rfl) | exact Or.inr (Or.inr rfl)) (pk_cons (pv 6) pk_nil)) (pa_cons (pe_ix ix_list (pv 11) (pv 6) (fun _ _ => rfl)) pa_nil))))) (pss_one (ps_ret pe_bl)) pss_nil)
        (pss_one (ps_for PassesOwn.never rfl (pi_list (pe_lst (pa_cons (pe_un un_neg pe_int) (pa_cons (pe_op op_add (pv 6) pe_int) (pa_cons pe_bl (pa_cons pe_bl (pa_cons pe_non (pa_cons pe_str (pa_cons (pe_tup (pa_cons pe_int pa_nil)) (pa_cons (pe_lst (pa_cons pe_int pa_nil)) (pa_cons pe_dnewK (pa_cons (pe_op op_pow pe_int pe_int) (pa_cons pe_str pa_nil))))))))))))) (pg_name (i := 15) sc_law.nd rfl (by first | exact Or.inl rfl | exact Or.inr rfl)) (pss_one (ps_if (pt_not (pt_val (pe_d D_same D_room (pa_cons (pe_d D_refused (hr.mono (by decide)) (pa_cons (pv 10) (pa_cons (pv 15) pa_nil))) (pa_cons (pe_lst (pa_cons (pv 15) pa_nil)) pa_nil))))) (pss_one (ps_ret pe_bl)) pss_nil)))))))))))))))
        (pss_one (ps_ret pe_bl)))), ?_⟩
    refine ⟨_, rfl, a, ns, rfl, hS, hl, fun st c H0 nst nc e0 S0 => ?_⟩
    refine ⟨_, rfl, by decide, by decide, for_range (lo := 0) (n := 4) (fun i σ' H' => ∃ v2 v3 v4 v5 v6 v7 v8 v9 v10 v11 v12 v13 v14 v15 v16 v17 v18 : Option V, σ' = [some (.ref a), some (.ref st), v2, v3, v4, v5, v6, v7, v8, v9, v10, v11, v12, v13, v14, v15, v16, v17, v18] ∧ StAt H' st c)
      ⟨none, none, none, none, none, none, none, none, none, none, none, none, none, none, none, none, none, rfl, S0⟩ ?_ ?_⟩
    · rintro i σ' H hi ⟨v2, v3, v4, v5, v6, v7, v8, v9, v10, v11, v12, v13, v14, v15, v16, v17, v18, rfl, S⟩
      refine ⟨_, rfl, _, rfl, st, c, rfl, S, fun m H1 m0 m1 S1 e1 => ⟨st, c, m, rfl, S1, m0, m1, fun tb0 r wk tw ws H2 hw hlen ntb nr htb hrr hwk htw S2 e2 => ?_⟩⟩
      refine ⟨tb0, _, rfl, SqT.of htb, rfl, _, _, rfl, _, _, rfl, _, _, rfl, rfl, ?_⟩
      have hrs : r ≠ st := (S1.of_new nr).1
      have hl1 := hw.l1
      clear e2 e1 S1 S ntb nr htb
      have hN : (ws.map V.str).length = ws.length := List.length_map ..
      -- the rows
      refine ⟨_, rfl, r, _, rfl, .inl (SqL.of hrr), ?_⟩
      refine ⟨_, rfl, _, rfl, r, _, rfl, .inl (SqL.of hrr), _, rfl, by show 5 ≤ sizeLine; decide, fun tu ntu => ?_⟩
      refine ⟨st, c, tu, _, rfl, S2.same (Same.upd' ntu), (S2.of_new ntu).1, .inr (SqT.of upd_same), by show 0 < 5; decide, by show 5 < _; decide, fun v H3 hv S3 e3 => ?_⟩
      obtain ⟨xs2, hst2⟩ := S2.neL
      have e3' : Kp st H2 H3 := (Kp.of (Same.upd' ntu)).trans e3
      obtain ⟨m', rfl, hm'⟩ : ∃ m : Nat, v = .int m ∧ m ≤ 12 := by
        simp only [List.mem_cons, List.not_mem_nil, or_false] at hv
        rcases hv with rfl | rfl | rfl | rfl | rfl
        · exact ⟨0, rfl, by decide⟩
        · exact ⟨1, rfl, by decide⟩
        · exact ⟨2, rfl, by decide⟩
        · exact ⟨5, rfl, by decide⟩
        · exact ⟨12, rfl, by decide⟩
      refine ⟨st, c, ws.length, m', by rw [hN]; rfl, S3, hl1, by omega, fun p ps H4 np hpl S4 e4 hR => ?_⟩
      refine ⟨_, _, rfl, ?_⟩
      rw [hN]
      have S5 := S4
      have e5 := e3'.trans e4
      have hR5 := hR
      have hwk5 := hwk.kp e5 hst2
      have htw5 := htw.kp e5 hst2
      have hr5 := e5 _ _ hrs hrr
      clear hwk htw hrr e3 e3' e4 e5 S4 S3 S2 hst2 hR np ntu hv
      obtain ⟨xs5, hst5⟩ := S5.neL
      refine q_cut (M := fun σ' H' => ∃ p ps w2, σ' = [some (.ref a), some (.ref st), w2, some (.ref r), some (.ref wk), some (.ref tw), some (.int (ws.length : Nat)), some (.ref p), v8, v9, v10, v11, v12, v13, v14, v15, v16, v17, v18] ∧ StAt H' st c ∧ RowsAt H' st ws.length p ps ∧ ps.length ≤ 40 ∧ WkAt CW H' wk "a" ws ∧ WkAt CW H' tw "a" ws ∧ H' r = some (.lst (ws.map V.str))) ?_ ?_
      · refine ⟨_, rfl, _, _, rfl, rfl, _, rfl, ite2 (fun _ => ?_) (fun _ => ⟨p, ps, _, rfl, S5, hR5, by omega, hwk5, htw5, hr5⟩)⟩
        refine ⟨_, rfl, st, c, 3, rfl, S5, by decide, by decide, fun d H6 d0 d1 S6 e6 => ⟨rfl, _, rfl, ite2 (fun _ => ?_) (fun _ => ⟨p, ps, _, rfl, S6, hR5.kp e6, by omega, hwk5.kp e6 hst5, htw5.kp e6 hst5, e6 _ _ hrs hr5⟩)⟩⟩
        refine ⟨_, rfl, _, rfl, st, c, ws.length, 40, rfl, S6, hl1, by decide, fun p' ps' H7 np' hl' S7 e7 hR7 => ⟨p', ps', _, rfl, S7, hR7, hl', ?_, ?_, ?_⟩⟩
        · exact hwk5.kp (e6.trans e7) hst5
        · exact htw5.kp (e6.trans e7) hst5
        · exact (e6.trans e7) _ _ hrs hr5
      clear hR5 hpl hwk5 htw5 hr5 hst5 S5 p ps
      rintro σ' H5 ⟨p, ps, w2, rfl, S5, hR5, hpl, hwk5, htw5, hr5⟩
      obtain ⟨xs5, hst5⟩ := S5.neL
      -- the editions
      refine ⟨_, rfl, p, rfl, ⟨_, SqL.of hR5.at_⟩, fun D nD => ?_⟩
      refine lc_drawL (K := K) (st := st) (c := c) (xs := ps.map fun z => V.ref z.1) (fun i v H' => ∃ e wk' z, v = .ref e ∧ ps[i]? = some z ∧ EdAt CW CE H' e wk' "a" ws z.2) S5 nD hR5.ne hR5.at_ (by rw [List.length_map]; omega) (fun i v H2 H3 ⟨e, wk', z, q1, q2, q3⟩ e' => ⟨e, wk', z, q1, q2, q3.kps e'⟩) ?_ ?_
      · rintro i x H' hx S' e ⟨acc, hD⟩ Q' kQ
        obtain ⟨z, hz, rfl⟩ := map_inv hx
        obtain ⟨z1, z2, z3⟩ := (hR5.kp e).el z (List.mem_of_getElem? hz)
        refine ⟨_, rfl, _, rfl, _, rfl, by show 2 ≤ sizeLine; decide, fun bl nbl => ?_⟩
        have sb := Same.upd' nbl (o := .lst [.ref wk, .ref tw])
        refine ⟨st, c, bl, _, rfl, S'.same sb, (S'.of_new nbl).1, .inl (SqL.of upd_same), by simp, by simp, fun v H2 hv S2 e2 => ?_⟩
        have e2' : Kp st H' H2 := (Kp.of sb).trans e2
        have k2 := e.trans e2'
        obtain ⟨w2, rfl, hw2⟩ := two_of (hwk5.kp k2 hst5) (htw5.kp k2 hst5) hv
        refine ⟨_, rfl, _, rfl, w2, r, z.1, "a", ws, z.2, rfl, hw2, hw, k2 _ _ hrs hr5, e2' _ _ z1 z3, fun ed H3 ne e3 hed => ?_⟩
        exact kQ _ H3 ⟨ed, w2, z, rfl, hz, hed⟩ (S2.same e3) (e2'.trans (Kp.of e3))
      rintro vs H6 hvl hv S6 e6 hD
      obtain ⟨es, rfl, _⟩ := pick_each (vs := vs) (f := V.ref) (Pz := fun _ => True) fun v hv' => by
        obtain ⟨i, hi⟩ := mem_ix hv'
        obtain ⟨e, wk', z, q1, q2, q3⟩ := hv i v hi
        exact ⟨e, q1, trivial⟩
      rw [List.length_map, List.length_map] at hvl
      have hE6 : EdsAt CW CE H6 es "a" ws (snds ps) := ⟨by unfold snds; rw [List.length_map]; exact hvl, fun i e S h1 h2 => by
        obtain ⟨e', wk', z, q1, q2, q3⟩ := hv i (.ref e) (by rw [List.getElem?_map, h1]; rfl)
        cases q1
        unfold snds at h2
        rw [List.getElem?_map, q2] at h2
        cases h2
        exact ⟨wk', q3⟩⟩
      have hDs := (S5.of_new nD).1
      have hR6 := hR5.kp e6
      have hwk6 := hwk5.kp e6 hst5
      clear hv nD hst5 e6 hr5 htw5 hwk5 hR5 S5
      -- handed
      refine ⟨_, rfl, _, rfl, st, c, D, refs es, rfl, S6, hDs, hD, fun hp H7 nhp S7 e7 hq7 => ?_⟩
      obtain ⟨xs6, hst6⟩ := S6.neL
      have hps7 := (S6.of_new nhp).1
      have hpc7 := (S6.of_new nhp).2
      have hDp : D ≠ hp := ne_of_none hD nhp
      have hRp : ∀ z ∈ ps, z.1 ≠ hp := fun z hz => ne_of_none (hR6.el z hz).2.2 nhp
      have hpp : p ≠ hp := ne_of_none hR6.at_ nhp
      have hR7 := hR6.kp e7
      have hE7 := hE6.kp e7 hst6
      have hwk7 := hwk6.kp e7 hst6
      have hD7 := e7 _ _ hDs hD
      clear hst6 e7 nhp hD hwk6 hE6 hR6 S6
      refine go_made (σ := _) rfl rfl rfl S7 hwk7 hw hps7 hq7 hE7 fun ma H8 nma S8 e8 hma => ?_
      obtain ⟨xs7, hst7⟩ := S7.neL
      have hR8 := hR7.kp e8
      have hE8 := hE7.kp e8 hst7
      have hq8 : SeqAt H8 hp (refs es) := hq7.elim (fun h => .inl (e8 _ _ hps7 h)) fun h => .inr (e8 _ _ hps7 h)
      have hD8 := e8 _ _ hDs hD7
      have hSl : (snds ps).length = ps.length := by unfold snds; rw [List.length_map]
      have hel : es.length = ps.length := hvl
      clear hst7 e8 nma hD7 hwk7 hE7 hR7 hq7 S7
      refine q_cut (M := fun σ' H' => σ' = [some (.ref a), some (.ref st), w2, some (.ref r), some (.ref wk), some (.ref tw), some (.int (ws.length : Nat)), some (.ref p), some (.ref D), some (.ref hp), some (.ref ma), v11, v12, v13, v14, v15, v16, v17, v18] ∧ KpL hp H8 H') ?_ ?_
      · refine s_when (et_test (ev_op (ev_lenL (K := K) (ev_var rfl) hR8.at_) ev_c rv_I0)) (fun _ H9 e9 => ?_) (fun _ H9 e9 => ⟨rfl, fun b o h _ => e9 b o h⟩)
        exact ⟨_, rfl, hp, refs es, rfl, hq8.elim (fun h => .inl (e9 _ _ h)) (fun h => .inr (e9 _ _ h)), by rw [refs_len]; omega, fun H' kp => ⟨rfl, fun b o h hn => kp b o (e9 _ _ h) hn⟩⟩
      rintro σ' H9 ⟨rfl, kp⟩
      have ma9 := hma.kpl kp
      have S9 : StAt H9 st c := S8.kpl kp hps7 hpc7
      have hR9 : RowsR H9 ws.length p ps := ⟨kp _ _ hR8.at_ fun z => absurd z hpp, fun z hz => kp _ _ (hR8.el z hz).2.2 fun q => absurd q (hRp z hz)⟩
      have hD9 : H9 D = some (.lst (refs es)) := kp _ _ hD8 fun z => absurd z hDp
      have hE9 : EdsAt CW CE H9 es "a" ws (snds ps) := ⟨hE8.len, fun i e S h1 h2 => let ⟨w', q⟩ := hE8.at_ i e S h1 h2; ⟨w', q.kpl kp⟩⟩
      clear kp hma S8 hR8 hE8 hq8 hD8
      refine ⟨_, rfl, _, rfl, p, ws.length, ps, rfl, hR9, hl1, by omega, fun du HA ndu eA hdu => ?_⟩
      have SA := S9.same eA
      have maA := ma9.same eA
      have hDA := eA _ _ hD9
      have hEA := hE9.same eA
      have hpA := eA _ _ hR9.1
      have end_ : ∀ (H' : Hp) (u12 u13 u14 u15 u16 u17 u18 : Option V), StAt H' st c → ∃ x2 x3 x4 x5 x6 x7 x8 x9 x10 x11 x12 x13 x14 x15 x16 x17 x18 : Option V, [some (V.ref a), some (.ref st), w2, some (.ref r), some (.ref wk), some (.ref tw), some (.int (ws.length : Nat)), some (.ref p), some (.ref D), some (.ref hp), some (.ref ma), some (.ref du), u12, u13, u14, u15, u16, u17, u18] = [some (.ref a), some (.ref st), x2, x3, x4, x5, x6, x7, x8, x9, x10, x11, x12, x13, x14, x15, x16, x17, x18] ∧ StAt H' st c := fun H' u12 u13 u14 u15 u16 u17 u18 s => ⟨_, _, _, _, _, _, _, _, _, _, _, _, _, _, _, _, _, rfl, s⟩
      clear S9 ma9 hD9 hE9 hR9 eA ndu
      refine ⟨_, rfl, by decide, by decide, for_range (lo := 0) (n := 2) (fun i σ' H' => ∃ w12 w13 w14 w15 w16 w17 w18 : Option V, σ' = [some (.ref a), some (.ref st), w2, some (.ref r), some (.ref wk), some (.ref tw), some (.int (ws.length : Nat)), some (.ref p), some (.ref D), some (.ref hp), some (.ref ma), some (.ref du), w12, w13, w14, w15, w16, w17, w18] ∧ Ex HA H')
        ⟨_, _, _, _, _, _, _, rfl, Ex.refl _⟩ ?_ ?_⟩
      · rintro i σ' HB hi ⟨w12, w13, w14, w15, w16, w17, w18, rfl, eB⟩
        refine q_tabEds (ev_var rfl) (maA.same eB) fun tb to es' HC ntb nto hne eC htb hto hE' => ?_
        have eAC := Ex.trans eB eC
        refine q_when (b := false) (et_is (et_not (et_B (ev_same22 (l := tbl ws.length (tellW (snds ps))) (ev_var rfl) htb (by
          rw [nts_tblY]
          exact el_mapR (n := ws.length + 1) (ea_cons (ev_is (ev_op (ev_var rfl) ev_c rv_I0) rfl) ea_nil) (by omega) fun k hk H1 x1 => ev_callO rfl (ev_var rfl) (maA.same (Ex.trans eAC x1)) (by omega)) (ev_var rfl) (eAC _ _ hdu) (by rw [tbl_len]; omega)))) rfl) (fun z => nomatch z) fun _ HD eD => ?_
        have eAD := Ex.trans eAC eD
        have htoD := eD _ _ hto
        have hel' : es'.length = ps.length := by rw [hE'.len, hSl]
        refine q_when (b := false) (et_is (et_or (et_not (et_B (ev_sameI (d := 2) (i := ((snds ps).length : Nat)) (ev_walen (ev_var rfl) (maA.same eAD) (by omega)) (ev_is (ev_lenL (K := K) (ev_var rfl) (eAD _ _ hpA)) (by rw [List.length_map, hSl]))))) fun _ => et_or (et_not (et_B (ev_isi (b := true) (ev_var rfl) (.ty _) (fun _ e => .base (.lst (e _ _ htoD))) (kit_ty (by decide +kernel))))) fun _ =>
          et_test (ev_op (ev_lenL (K := K) (ev_var rfl) htoD) (ev_lenL (K := K) (ev_var rfl) (eAD _ _ hpA)) (rv_ne rfl))) (by rw [refs_len, List.length_map, hel']; simp)) (fun z => nomatch z) fun _ HE eE => ?_
        have eAE := Ex.trans eAD eE
        have htoE := eE _ _ htoD
        have hEE := hE'.same (Ex.trans eD eE)
        refine q_when (b := false) (et_is (et_not (et_B (ev_all (K := K) (bs := (List.range (refs es').length).map fun _ => true) (by
          rw [List.map_map]
          exact el_lcZ (K := K) (fun _ => .bl true) (ev_var rfl) (ev_var rfl) (.inl ⟨htoE, eAE _ _ hDA⟩) (by rw [refs_len, refs_len, hel', hel]) (by rw [refs_len]; omega) (fun _ _ => rfl) fun n x y H1 x1 hx hy => by
            obtain ⟨e1, h1, rfl⟩ := refs_inv hx
            obtain ⟨e2, h2, rfl⟩ := refs_inv hy
            obtain ⟨S1, wk1, q1, k1⟩ := (hEE.same x1).get h1
            obtain ⟨S2, wk2, q2, k2⟩ := (hEA.same (Ex.trans eAE x1)).get h2
            rw [q1] at q2
            cases q2
            exact ev_edEq (ev_var rfl) (ev_var rfl) hw k1 k2)))) (by simp)) (fun z => nomatch z) fun _ HF eF => ?_
        have htbF := eF _ _ (eE _ _ (eD _ _ htb))
        have htoF := eF _ _ htoE
        refine ⟨_, rfl, .inl ⟨rfl, _, SqL.of htbF⟩, tb, _, rfl, rfl, htbF, ?_⟩
        refine s_app (by rw [upd_ne hne.symm]; exact htoF) (ev_var rfl) ev_c (by rw [refs_len]; omega) fun HG eG => ⟨_, _, _, _, _, _, _, rfl, ?_⟩
        have n1 := fresh_back eB ntb
        have n2 := fresh_back eB nto
        exact Ex.mut (Ex.trans (Ex.mut (Ex.trans eAE eF) n1) eG) n2
      rintro σ' HB ⟨w12, w13, w14, w15, w16, w17, w18, rfl, eB⟩
      have SB := SA.same eB
      have maB := maA.same eB
      have hduB := eB _ _ hdu
      refine q_when (b := false) (et_is (et_not (et_B (ev_sameI (d := 2) (i := (tellW (snds ps) ws.length : Nat)) (ev_callOk rfl (ev_var rfl) maB (Nat.le_refl _)) (ev_op (ev_var rfl) (ev_var rfl) (rv_ixL (sq_of hduB) (atI_nat (nts_at (tbl_at _ (Nat.le_refl _))))))))) rfl) (fun z => nomatch z) fun _ HC eC => ?_
      have maC := maB.same eC
      refine s_forBad (K := K) (Pb := fun xs H2 => ∀ x ∈ xs, NoCut K H2 ws.length x ∧ SameV H2 2 x x) (fun Q' q' => go_bad hl1 rfl q') fun bp xs HF eF hbp hbad => ⟨fun i σ' H' => ∃ w15 : Option V, σ' = [some (.ref a), some (.ref st), w2, some (.ref r), some (.ref wk), some (.ref tw), some (.int (ws.length : Nat)), some (.ref p), some (.ref D), some (.ref hp), some (.ref ma), some (.ref du), w12, w13, w14, w15, w16, w17, w18] ∧ Ex HF H', ⟨_, rfl, Ex.refl _⟩, fun i σ' H' ⟨w15, _, e⟩ => sq_of (e _ _ hbp), ?_, ?_⟩
      · rintro i x σ' H' hx ⟨w15, rfl, e⟩
        obtain ⟨hx1, hx2⟩ := hbad x (List.mem_of_getElem? hx)
        refine s_when (b := false) (et_is (et_not (et_B (ev_sameL (d := 2) (el_refused (ev_var rfl) (ev_var rfl) (maC.same (Ex.trans eF e)) (hx1.ex e)) (el_lst (ea_cons (ev_var rfl) ea_nil) (by show 1 ≤ 100000; decide)) (by show 1 ≤ 40000; decide) fun H2 e2 y hy => by
          rw [List.mem_singleton.mp hy]
          exact hx2.ex (Ex.trans e e2)))) rfl) (fun z => nomatch z) fun _ H2 e2 => ⟨_, rfl, Ex.trans e e2⟩
      · rintro σ' H' ⟨w15, rfl, e⟩
        exact end_ H' _ _ _ _ _ _ _ (SB.same (Ex.trans eC (Ex.trans eF e)))
    · rintro σ' H' ⟨v2, v3, v4, v5, v6, v7, v8, v9, v10, v11, v12, v13, v14, v15, v16, v17, v18, rfl, S⟩
      exact k H'
end
end Lm

namespace Lm
open PySem L2
theorem all_mk {l : PySem.W.OpenLaw} {w : World} {K : PySem.W.Frag} {h : Heap} {mg : Str → Option Value} {fa C_Work C_Edition C_Walk C_BC f_fresh f_fill f_take f_one f_same f_allw f_somew f_many f_handed f_spoilt f_kept f_isnum f_upto f_isrow f_isword f_wkinit f_wklen f_wkin f_wkend f_wkeq f_cuts f_counts f_edinit f_edkern f_edeq f_bcinit f_rcut f_ised f_told f_wainit f_watable f_waeds f_walen f_wacall f_base f_edn f_kernsL f_tableL f_rowsL f_refused f_law : Addr} (X : K.In h) (G : h.Ns mainGlobals mg) (hfa : mg "law" = some (.ref fa))
    {od_fresh an_fresh od_fill an_fill od_take an_take od_one an_one od_same an_same od_allw an_allw od_somew an_somew od_many an_many od_handed an_handed od_spoilt an_spoilt od_kept an_kept od_isnum an_isnum od_upto an_upto od_isrow an_isrow od_isword an_isword od_wkinit an_wkinit od_wklen an_wklen od_wkin an_wkin od_wkend an_wkend od_wkeq an_wkeq od_cuts an_cuts od_counts an_counts od_edinit an_edinit od_edkern an_edkern od_edeq an_edeq od_bcinit an_bcinit od_rcut an_rcut od_ised an_ised od_told an_told od_wainit an_wainit od_watable an_watable od_waeds an_waeds od_walen an_walen od_wacall an_wacall od_base an_base od_edn an_edn od_kernsL an_kernsL od_tableL an_tableL od_rowsL an_rowsL od_refused an_refused od_law an_law : Option Addr} {sl_fresh sl_fill sl_take sl_one sl_same sl_allw sl_somew sl_many sl_handed sl_spoilt sl_kept sl_isnum sl_upto sl_isrow sl_isword sl_wkinit sl_wklen sl_wkin sl_wkend sl_wkeq sl_cuts sl_counts sl_edinit sl_edkern sl_edeq sl_bcinit sl_rcut sl_ised sl_told sl_wainit sl_watable sl_waeds sl_walen sl_wacall sl_base sl_edn sl_kernsL sl_tableL sl_rowsL sl_refused sl_law : Array (Option Value)} {oc_fresh kV_fresh dc_fresh pm_fresh cd_fresh ct_fresh oc_fill kV_fill dc_fill pm_fill cd_fill ct_fill oc_take kV_take dc_take pm_take cd_take ct_take oc_one kV_one dc_one pm_one cd_one ct_one oc_same kV_same dc_same pm_same cd_same ct_same oc_allw kV_allw dc_allw pm_allw cd_allw ct_allw oc_somew kV_somew dc_somew pm_somew cd_somew ct_somew oc_many kV_many dc_many pm_many cd_many ct_many oc_handed kV_handed dc_handed pm_handed cd_handed ct_handed oc_spoilt kV_spoilt dc_spoilt pm_spoilt cd_spoilt ct_spoilt oc_kept kV_kept dc_kept pm_kept cd_kept ct_kept oc_isnum kV_isnum dc_isnum pm_isnum cd_isnum ct_isnum oc_upto kV_upto dc_upto pm_upto cd_upto ct_upto oc_isrow kV_isrow dc_isrow pm_isrow cd_isrow ct_isrow oc_isword kV_isword dc_isword pm_isword cd_isword ct_isword oc_wkinit kV_wkinit dc_wkinit pm_wkinit cd_wkinit ct_wkinit oc_wklen kV_wklen dc_wklen pm_wklen cd_wklen ct_wklen oc_wkin kV_wkin dc_wkin pm_wkin cd_wkin ct_wkin oc_wkend kV_wkend dc_wkend pm_wkend cd_wkend ct_wkend oc_wkeq kV_wkeq dc_wkeq pm_wkeq cd_wkeq ct_wkeq oc_cuts kV_cuts dc_cuts pm_cuts cd_cuts ct_cuts oc_counts kV_counts dc_counts pm_counts cd_counts ct_counts oc_edinit kV_edinit dc_edinit pm_edinit cd_edinit ct_edinit oc_edkern kV_edkern dc_edkern pm_edkern cd_edkern ct_edkern oc_edeq kV_edeq dc_edeq pm_edeq cd_edeq ct_edeq oc_bcinit kV_bcinit dc_bcinit pm_bcinit cd_bcinit ct_bcinit oc_rcut kV_rcut dc_rcut pm_rcut cd_rcut ct_rcut oc_ised kV_ised dc_ised pm_ised cd_ised ct_ised oc_told kV_told dc_told pm_told cd_told ct_told oc_wainit kV_wainit dc_wainit pm_wainit cd_wainit ct_wainit oc_watable kV_watable dc_watable pm_watable cd_watable ct_watable oc_waeds kV_waeds dc_waeds pm_waeds cd_waeds ct_waeds oc_walen kV_walen dc_walen pm_walen cd_walen ct_walen oc_wacall kV_wacall dc_wacall pm_wacall cd_wacall ct_wacall oc_base kV_base dc_base pm_base cd_base ct_base oc_edn kV_edn dc_edn pm_edn cd_edn ct_edn oc_kernsL kV_kernsL dc_kernsL pm_kernsL cd_kernsL ct_kernsL oc_tableL kV_tableL dc_tableL pm_tableL cd_tableL ct_tableL oc_rowsL kV_rowsL dc_rowsL pm_rowsL cd_rowsL ct_rowsL oc_refused kV_refused dc_refused pm_refused cd_refused ct_refused oc_law kV_law dc_law pm_law cd_law ct_law : Value} {tL tW : Tok}
    {nmBC qBC : Str} {NBC : Addr} {bsBC bmBC : List Value} {snBC : List Str} {subBC : List Value} {abBC : Bool} {colBC : Option Bool} {ddBC : Option Addr} {k0BC k1BC k2BC k3BC k5BC : Option Value}
    (a_Work : PySem.W.nsIn K mainGlobals "Work" = some (some (.ref C_Work)))
    (pg_Work : PySem.W.plainGet K C_Work Str.empty = true)
    (hd_Work : PySem.W.hasDictIn K C_Work = true)
    (po_Work : PySem.W.plainOver K C_Work = true)
    (sa_Work : PySem.W.findIn K (.ref C_Work) "__setattr__" = some (some (.builtin "object.__setattr__")))
    (mk_Work : PySem.W.makesIn K C_Work = true)
    (kc_Work : PySem.W.keepIn K (.ref C_Work) = true)
    (n_Work_name : PySem.W.findIn K (.ref C_Work) "name" = some none)
    (n_Work_words : PySem.W.findIn K (.ref C_Work) "words" = some none)
    (n_Work_ends : PySem.W.findIn K (.ref C_Work) "ends" = some none)
    (ha_Work : PySem.W.findIn K (.ref C_Work) "__class__" = some (some (.builtin "object.__class__")))
    (hn_Work : PySem.W.specialIn K (.builtin "object.__class__") "__get__" = some (some (.builtin "getset_descriptor.__get__")))
    (htk_Work : PySem.W.takesIn K (.builtin "object.__class__") = some true)
    (hm_Work : PySem.W.mroIn K C_Work (.type "object") = some true)
    (a_Edition : PySem.W.nsIn K mainGlobals "Edition" = some (some (.ref C_Edition)))
    (pg_Edition : PySem.W.plainGet K C_Edition Str.empty = true)
    (hd_Edition : PySem.W.hasDictIn K C_Edition = true)
    (po_Edition : PySem.W.plainOver K C_Edition = true)
    (sa_Edition : PySem.W.findIn K (.ref C_Edition) "__setattr__" = some (some (.builtin "object.__setattr__")))
    (mk_Edition : PySem.W.makesIn K C_Edition = true)
    (kc_Edition : PySem.W.keepIn K (.ref C_Edition) = true)
    (n_Edition_work : PySem.W.findIn K (.ref C_Edition) "work" = some none)
    (n_Edition_words : PySem.W.findIn K (.ref C_Edition) "words" = some none)
    (n_Edition_cuts : PySem.W.findIn K (.ref C_Edition) "cuts" = some none)
    (n_Edition_counts : PySem.W.findIn K (.ref C_Edition) "counts" = some none)
    (ha_Edition : PySem.W.findIn K (.ref C_Edition) "__class__" = some (some (.builtin "object.__class__")))
    (hm_Edition : PySem.W.mroIn K C_Edition (.type "object") = some true)
    (a_Walk : PySem.W.nsIn K mainGlobals "Walk" = some (some (.ref C_Walk)))
    (pg_Walk : PySem.W.plainGet K C_Walk Str.empty = true)
    (hd_Walk : PySem.W.hasDictIn K C_Walk = true)
    (po_Walk : PySem.W.plainOver K C_Walk = true)
    (sa_Walk : PySem.W.findIn K (.ref C_Walk) "__setattr__" = some (some (.builtin "object.__setattr__")))
    (mk_Walk : PySem.W.makesIn K C_Walk = true)
    (kc_Walk : PySem.W.keepIn K (.ref C_Walk) = true)
    (n_Walk_work : PySem.W.findIn K (.ref C_Walk) "work" = some none)
    (n_Walk_steps : PySem.W.findIn K (.ref C_Walk) "steps" = some none)
    (a_fresh : PySem.W.nsIn K mainGlobals "_law_fresh" = some (some (.ref f_fresh)))
    (l_fresh : K.lookup f_fresh = some ⟨oc_fresh, od_fresh, .func (PySem.W.fnOf "_law_fresh" "_law_fresh" (defArgs s_fresh) (defBody s_fresh) (defScope s_fresh) .none kV_fresh dc_fresh pm_fresh an_fresh cd_fresh ct_fresh), sl_fresh⟩)
    (c_fresh : PySem.W.codeIn K cd_fresh "_law_fresh" = true)
    (k_fresh : PySem.W.keepIn K (.ref f_fresh) = true)
    (a_fill : PySem.W.nsIn K mainGlobals "_law_fill" = some (some (.ref f_fill)))
    (l_fill : K.lookup f_fill = some ⟨oc_fill, od_fill, .func (PySem.W.fnOf "_law_fill" "_law_fill" (defArgs s_fill) (defBody s_fill) (defScope s_fill) .none kV_fill dc_fill pm_fill an_fill cd_fill ct_fill), sl_fill⟩)
    (c_fill : PySem.W.codeIn K cd_fill "_law_fill" = true)
    (k_fill : PySem.W.keepIn K (.ref f_fill) = true)
    (a_take : PySem.W.nsIn K mainGlobals "_law_take" = some (some (.ref f_take)))
    (l_take : K.lookup f_take = some ⟨oc_take, od_take, .func (PySem.W.fnOf "_law_take" "_law_take" (defArgs s_take) (defBody s_take) (defScope s_take) .none kV_take dc_take pm_take an_take cd_take ct_take), sl_take⟩)
    (c_take : PySem.W.codeIn K cd_take "_law_take" = true)
    (k_take : PySem.W.keepIn K (.ref f_take) = true)
    (a_one : PySem.W.nsIn K mainGlobals "_law_one" = some (some (.ref f_one)))
    (l_one : K.lookup f_one = some ⟨oc_one, od_one, .func (PySem.W.fnOf "_law_one" "_law_one" (defArgs s_one) (defBody s_one) (defScope s_one) .none kV_one dc_one pm_one an_one cd_one ct_one), sl_one⟩)
    (c_one : PySem.W.codeIn K cd_one "_law_one" = true)
    (k_one : PySem.W.keepIn K (.ref f_one) = true)
    (a_same : PySem.W.nsIn K mainGlobals "_law_same" = some (some (.ref f_same)))
    (l_same : K.lookup f_same = some ⟨oc_same, od_same, .func (PySem.W.fnOf "_law_same" "_law_same" (defArgs s_same) (defBody s_same) (defScope s_same) .none kV_same dc_same pm_same an_same cd_same ct_same), sl_same⟩)
    (c_same : PySem.W.codeIn K cd_same "_law_same" = true)
    (k_same : PySem.W.keepIn K (.ref f_same) = true)
    (a_allw : PySem.W.nsIn K mainGlobals "_law_all_words" = some (some (.ref f_allw)))
    (l_allw : K.lookup f_allw = some ⟨oc_allw, od_allw, .func (PySem.W.fnOf "_law_all_words" "_law_all_words" (defArgs s_all_words) (defBody s_all_words) (defScope s_all_words) .none kV_allw dc_allw pm_allw an_allw cd_allw ct_allw), sl_allw⟩)
    (c_allw : PySem.W.codeIn K cd_allw "_law_all_words" = true)
    (k_allw : PySem.W.keepIn K (.ref f_allw) = true)
    (a_somew : PySem.W.nsIn K mainGlobals "_law_some_words" = some (some (.ref f_somew)))
    (l_somew : K.lookup f_somew = some ⟨oc_somew, od_somew, .func (PySem.W.fnOf "_law_some_words" "_law_some_words" (defArgs s_some_words) (defBody s_some_words) (defScope s_some_words) .none kV_somew dc_somew pm_somew an_somew cd_somew ct_somew), sl_somew⟩)
    (c_somew : PySem.W.codeIn K cd_somew "_law_some_words" = true)
    (k_somew : PySem.W.keepIn K (.ref f_somew) = true)
    (a_many : PySem.W.nsIn K mainGlobals "_law_many" = some (some (.ref f_many)))
    (l_many : K.lookup f_many = some ⟨oc_many, od_many, .func (PySem.W.fnOf "_law_many" "_law_many" (defArgs s_many) (defBody s_many) (defScope s_many) .none kV_many dc_many pm_many an_many cd_many ct_many), sl_many⟩)
    (c_many : PySem.W.codeIn K cd_many "_law_many" = true)
    (k_many : PySem.W.keepIn K (.ref f_many) = true)
    (a_handed : PySem.W.nsIn K mainGlobals "_law_handed" = some (some (.ref f_handed)))
    (l_handed : K.lookup f_handed = some ⟨oc_handed, od_handed, .func (PySem.W.fnOf "_law_handed" "_law_handed" (defArgs s_handed) (defBody s_handed) (defScope s_handed) .none kV_handed dc_handed pm_handed an_handed cd_handed ct_handed), sl_handed⟩)
    (c_handed : PySem.W.codeIn K cd_handed "_law_handed" = true)
    (k_handed : PySem.W.keepIn K (.ref f_handed) = true)
    (a_spoilt : PySem.W.nsIn K mainGlobals "_law_spoilt" = some (some (.ref f_spoilt)))
    (l_spoilt : K.lookup f_spoilt = some ⟨oc_spoilt, od_spoilt, .func (PySem.W.fnOf "_law_spoilt" "_law_spoilt" (defArgs s_spoilt) (defBody s_spoilt) (defScope s_spoilt) .none kV_spoilt dc_spoilt pm_spoilt an_spoilt cd_spoilt ct_spoilt), sl_spoilt⟩)
    (c_spoilt : PySem.W.codeIn K cd_spoilt "_law_spoilt" = true)
    (k_spoilt : PySem.W.keepIn K (.ref f_spoilt) = true)
    (a_kept : PySem.W.nsIn K mainGlobals "_law_kept" = some (some (.ref f_kept)))
    (l_kept : K.lookup f_kept = some ⟨oc_kept, od_kept, .func (PySem.W.fnOf "_law_kept" "_law_kept" (defArgs s_kept) (defBody s_kept) (defScope s_kept) .none kV_kept dc_kept pm_kept an_kept cd_kept ct_kept), sl_kept⟩)
    (c_kept : PySem.W.codeIn K cd_kept "_law_kept" = true)
    (k_kept : PySem.W.keepIn K (.ref f_kept) = true)
    (a_isnum : PySem.W.nsIn K mainGlobals "is_number" = some (some (.ref f_isnum)))
    (l_isnum : K.lookup f_isnum = some ⟨oc_isnum, od_isnum, .func (PySem.W.fnOf "is_number" "is_number" (defArgs s_is_number) (defBody s_is_number) (defScope s_is_number) .none kV_isnum dc_isnum pm_isnum an_isnum cd_isnum ct_isnum), sl_isnum⟩)
    (c_isnum : PySem.W.codeIn K cd_isnum "is_number" = true)
    (k_isnum : PySem.W.keepIn K (.ref f_isnum) = true)
    (a_upto : PySem.W.nsIn K mainGlobals "is_up_to" = some (some (.ref f_upto)))
    (l_upto : K.lookup f_upto = some ⟨oc_upto, od_upto, .func (PySem.W.fnOf "is_up_to" "is_up_to" (defArgs s_is_up_to) (defBody s_is_up_to) (defScope s_is_up_to) .none kV_upto dc_upto pm_upto an_upto cd_upto ct_upto), sl_upto⟩)
    (c_upto : PySem.W.codeIn K cd_upto "is_up_to" = true)
    (k_upto : PySem.W.keepIn K (.ref f_upto) = true)
    (a_isrow : PySem.W.nsIn K mainGlobals "is_row" = some (some (.ref f_isrow)))
    (l_isrow : K.lookup f_isrow = some ⟨oc_isrow, od_isrow, .func (PySem.W.fnOf "is_row" "is_row" (defArgs s_is_row) (defBody s_is_row) (defScope s_is_row) .none kV_isrow dc_isrow pm_isrow an_isrow cd_isrow ct_isrow), sl_isrow⟩)
    (c_isrow : PySem.W.codeIn K cd_isrow "is_row" = true)
    (k_isrow : PySem.W.keepIn K (.ref f_isrow) = true)
    (a_isword : PySem.W.nsIn K mainGlobals "is_word" = some (some (.ref f_isword)))
    (l_isword : K.lookup f_isword = some ⟨oc_isword, od_isword, .func (PySem.W.fnOf "is_word" "is_word" (defArgs s_is_word) (defBody s_is_word) (defScope s_is_word) .none kV_isword dc_isword pm_isword an_isword cd_isword ct_isword), sl_isword⟩)
    (c_isword : PySem.W.codeIn K cd_isword "is_word" = true)
    (k_isword : PySem.W.keepIn K (.ref f_isword) = true)
    (a_wkinit : PySem.W.findIn K (.ref C_Work) "__init__" = some (some (.ref f_wkinit)))
    (i_wkinit : PySem.W.isFn K (.ref f_wkinit) = true)
    (l_wkinit : K.lookup f_wkinit = some ⟨oc_wkinit, od_wkinit, .func (PySem.W.fnOf "__init__" "Work.__init__" (defArgs s_Work_init) (defBody s_Work_init) (defScope s_Work_init) .none kV_wkinit dc_wkinit pm_wkinit an_wkinit cd_wkinit ct_wkinit), sl_wkinit⟩)
    (c_wkinit : PySem.W.codeIn K cd_wkinit "Work.__init__" = true)
    (k_wkinit : PySem.W.keepIn K (.ref f_wkinit) = true)
    (a_wklen : PySem.W.findIn K (.ref C_Work) "__len__" = some (some (.ref f_wklen)))
    (i_wklen : PySem.W.isFn K (.ref f_wklen) = true)
    (l_wklen : K.lookup f_wklen = some ⟨oc_wklen, od_wklen, .func (PySem.W.fnOf "__len__" "Work.__len__" (defArgs s_Work_len) (defBody s_Work_len) (defScope s_Work_len) .none kV_wklen dc_wklen pm_wklen an_wklen cd_wklen ct_wklen), sl_wklen⟩)
    (c_wklen : PySem.W.codeIn K cd_wklen "Work.__len__" = true)
    (k_wklen : PySem.W.keepIn K (.ref f_wklen) = true)
    (a_wkin : PySem.W.findIn K (.ref C_Work) "__contains__" = some (some (.ref f_wkin)))
    (i_wkin : PySem.W.isFn K (.ref f_wkin) = true)
    (l_wkin : K.lookup f_wkin = some ⟨oc_wkin, od_wkin, .func (PySem.W.fnOf "__contains__" "Work.__contains__" (defArgs s_Work_contains) (defBody s_Work_contains) (defScope s_Work_contains) .none kV_wkin dc_wkin pm_wkin an_wkin cd_wkin ct_wkin), sl_wkin⟩)
    (c_wkin : PySem.W.codeIn K cd_wkin "Work.__contains__" = true)
    (k_wkin : PySem.W.keepIn K (.ref f_wkin) = true)
    (a_wkend : PySem.W.findIn K (.ref C_Work) "end_of" = some (some (.ref f_wkend)))
    (i_wkend : PySem.W.isFn K (.ref f_wkend) = true)
    (l_wkend : K.lookup f_wkend = some ⟨oc_wkend, od_wkend, .func (PySem.W.fnOf "end_of" "Work.end_of" (defArgs s_Work_end_of) (defBody s_Work_end_of) (defScope s_Work_end_of) .none kV_wkend dc_wkend pm_wkend an_wkend cd_wkend ct_wkend), sl_wkend⟩)
    (c_wkend : PySem.W.codeIn K cd_wkend "Work.end_of" = true)
    (k_wkend : PySem.W.keepIn K (.ref f_wkend) = true)
    (a_wkeq : PySem.W.findIn K (.ref C_Work) "__eq__" = some (some (.ref f_wkeq)))
    (i_wkeq : PySem.W.isFn K (.ref f_wkeq) = true)
    (l_wkeq : K.lookup f_wkeq = some ⟨oc_wkeq, od_wkeq, .func (PySem.W.fnOf "__eq__" "Work.__eq__" (defArgs s_Work_eq) (defBody s_Work_eq) (defScope s_Work_eq) .none kV_wkeq dc_wkeq pm_wkeq an_wkeq cd_wkeq ct_wkeq), sl_wkeq⟩)
    (c_wkeq : PySem.W.codeIn K cd_wkeq "Work.__eq__" = true)
    (k_wkeq : PySem.W.keepIn K (.ref f_wkeq) = true)
    (a_cuts : PySem.W.nsIn K mainGlobals "cuts_behind" = some (some (.ref f_cuts)))
    (l_cuts : K.lookup f_cuts = some ⟨oc_cuts, od_cuts, .func (PySem.W.fnOf "cuts_behind" "cuts_behind" (defArgs s_cuts_behind) (defBody s_cuts_behind) (defScope s_cuts_behind) .none kV_cuts dc_cuts pm_cuts an_cuts cd_cuts ct_cuts), sl_cuts⟩)
    (c_cuts : PySem.W.codeIn K cd_cuts "cuts_behind" = true)
    (k_cuts : PySem.W.keepIn K (.ref f_cuts) = true)
    (a_counts : PySem.W.nsIn K mainGlobals "counts_at" = some (some (.ref f_counts)))
    (l_counts : K.lookup f_counts = some ⟨oc_counts, od_counts, .func (PySem.W.fnOf "counts_at" "counts_at" (defArgs s_counts_at) (defBody s_counts_at) (defScope s_counts_at) .none kV_counts dc_counts pm_counts an_counts cd_counts ct_counts), sl_counts⟩)
    (c_counts : PySem.W.codeIn K cd_counts "counts_at" = true)
    (k_counts : PySem.W.keepIn K (.ref f_counts) = true)
    (a_edinit : PySem.W.findIn K (.ref C_Edition) "__init__" = some (some (.ref f_edinit)))
    (i_edinit : PySem.W.isFn K (.ref f_edinit) = true)
    (l_edinit : K.lookup f_edinit = some ⟨oc_edinit, od_edinit, .func (PySem.W.fnOf "__init__" "Edition.__init__" (defArgs s_Edition_init) (defBody s_Edition_init) (defScope s_Edition_init) .none kV_edinit dc_edinit pm_edinit an_edinit cd_edinit ct_edinit), sl_edinit⟩)
    (c_edinit : PySem.W.codeIn K cd_edinit "Edition.__init__" = true)
    (k_edinit : PySem.W.keepIn K (.ref f_edinit) = true)
    (a_edkern : PySem.W.findIn K (.ref C_Edition) "kernels" = some (some (.ref f_edkern)))
    (i_edkern : PySem.W.isFn K (.ref f_edkern) = true)
    (l_edkern : K.lookup f_edkern = some ⟨oc_edkern, od_edkern, .func (PySem.W.fnOf "kernels" "Edition.kernels" (defArgs s_Edition_kernels) (defBody s_Edition_kernels) (defScope s_Edition_kernels) .none kV_edkern dc_edkern pm_edkern an_edkern cd_edkern ct_edkern), sl_edkern⟩)
    (c_edkern : PySem.W.codeIn K cd_edkern "Edition.kernels" = true)
    (k_edkern : PySem.W.keepIn K (.ref f_edkern) = true)
    (a_edeq : PySem.W.findIn K (.ref C_Edition) "__eq__" = some (some (.ref f_edeq)))
    (i_edeq : PySem.W.isFn K (.ref f_edeq) = true)
    (l_edeq : K.lookup f_edeq = some ⟨oc_edeq, od_edeq, .func (PySem.W.fnOf "__eq__" "Edition.__eq__" (defArgs s_Edition_eq) (defBody s_Edition_eq) (defScope s_Edition_eq) .none kV_edeq dc_edeq pm_edeq an_edeq cd_edeq ct_edeq), sl_edeq⟩)
    (c_edeq : PySem.W.codeIn K cd_edeq "Edition.__eq__" = true)
    (k_edeq : PySem.W.keepIn K (.ref f_edeq) = true)
    (aBC : PySem.W.nsIn K mainGlobals "BadCut" = some (some (.ref C_BC)))
    (oBC : K.lookup C_BC = some (excClassObj nmBC qBC C_BC NBC bsBC bmBC true snBC subBC abBC colBC ddBC k0BC k1BC k2BC k3BC k5BC "ValueError.__new__"))
    (rBC : PySem.HandSPX.refsVE bmBC = true)
    (sBC : PySem.W.findIn K (.ref C_BC) "__setattr__" = some (some (.builtin "object.__setattr__")))
    (bBC : PySem.W.subIn K (.ref C_BC) (.type "BaseException") = some true)
    (tBC : PySem.W.typeIn K (.ref C_BC) = some (.type "type"))
    (kBC : PySem.W.keepIn K (.ref C_BC) = true)
    (gaBC : PySem.W.findIn K (.ref C_BC) "__getattribute__" = some (some (.builtin "BaseException.__getattribute__")))
    (ggBC : PySem.W.findIn K (.ref C_BC) "__getattr__" = some none)
    (hdBC : PySem.W.hasDictIn K C_BC = true)
    (iBC : PySem.W.findIn K (.ref C_BC) "__init__" = some (some (.ref f_bcinit)))
    (tyBC : PySem.W.typeIn K (.ref f_bcinit) = some (.type "function"))
    (noBC : PySem.W.findIn K (.ref C_BC) "number" = some none)
    (icBC : PySem.W.isClsIn K C_BC = true)
    (seBC : PySem.W.subIn K (.ref C_BC) (.ref C_BC) = some true)
    (aWC0 : PySem.W.nsIn K mainGlobals "Walk" = some (some (.ref C_Walk)))
    (aWC1 : PySem.W.findIn K (.ref C_Walk) "__call__" = some (some (.ref f_wacall)))
    (fnWC : PySem.W.fnIn K f_wacall = true)
    (l_bcinit : K.lookup f_bcinit = some ⟨oc_bcinit, od_bcinit, .func (PySem.W.fnOf "__init__" "BadCut.__init__" (defArgs s_BadCut_init) (defBody s_BadCut_init) (defScope s_BadCut_init) .none kV_bcinit dc_bcinit pm_bcinit an_bcinit cd_bcinit ct_bcinit), sl_bcinit⟩)
    (c_bcinit : PySem.W.codeIn K cd_bcinit "BadCut.__init__" = true)
    (k_bcinit : PySem.W.keepIn K (.ref f_bcinit) = true)
    (a_rcut : PySem.W.nsIn K mainGlobals "require_cut" = some (some (.ref f_rcut)))
    (l_rcut : K.lookup f_rcut = some ⟨oc_rcut, od_rcut, .func (PySem.W.fnOf "require_cut" "require_cut" (defArgs s_require_cut) (defBody s_require_cut) (defScope s_require_cut) .none kV_rcut dc_rcut pm_rcut an_rcut cd_rcut ct_rcut), sl_rcut⟩)
    (c_rcut : PySem.W.codeIn K cd_rcut "require_cut" = true)
    (k_rcut : PySem.W.keepIn K (.ref f_rcut) = true)
    (a_ised : PySem.W.nsIn K mainGlobals "is_edition_of" = some (some (.ref f_ised)))
    (l_ised : K.lookup f_ised = some ⟨oc_ised, od_ised, .func (PySem.W.fnOf "is_edition_of" "is_edition_of" (defArgs s_is_edition_of) (defBody s_is_edition_of) (defScope s_is_edition_of) .none kV_ised dc_ised pm_ised an_ised cd_ised ct_ised), sl_ised⟩)
    (c_ised : PySem.W.codeIn K cd_ised "is_edition_of" = true)
    (k_ised : PySem.W.keepIn K (.ref f_ised) = true)
    (a_told : PySem.W.nsIn K mainGlobals "told_behind" = some (some (.ref f_told)))
    (l_told : K.lookup f_told = some ⟨oc_told, od_told, .func (PySem.W.fnOf "told_behind" "told_behind" (defArgs s_told_behind) (defBody s_told_behind) (defScope s_told_behind) .none kV_told dc_told pm_told an_told cd_told ct_told), sl_told⟩)
    (c_told : PySem.W.codeIn K cd_told "told_behind" = true)
    (k_told : PySem.W.keepIn K (.ref f_told) = true)
    (a_wainit : PySem.W.findIn K (.ref C_Walk) "__init__" = some (some (.ref f_wainit)))
    (i_wainit : PySem.W.isFn K (.ref f_wainit) = true)
    (l_wainit : K.lookup f_wainit = some ⟨oc_wainit, od_wainit, .func (PySem.W.fnOf "__init__" "Walk.__init__" (defArgs s_Walk_init) (defBody s_Walk_init) (defScope s_Walk_init) .none kV_wainit dc_wainit pm_wainit an_wainit cd_wainit ct_wainit), sl_wainit⟩)
    (c_wainit : PySem.W.codeIn K cd_wainit "Walk.__init__" = true)
    (k_wainit : PySem.W.keepIn K (.ref f_wainit) = true)
    (a_watable : PySem.W.findIn K (.ref C_Walk) "table" = some (some (.ref f_watable)))
    (i_watable : PySem.W.isFn K (.ref f_watable) = true)
    (l_watable : K.lookup f_watable = some ⟨oc_watable, od_watable, .func (PySem.W.fnOf "table" "Walk.table" (defArgs s_Walk_table) (defBody s_Walk_table) (defScope s_Walk_table) .none kV_watable dc_watable pm_watable an_watable cd_watable ct_watable), sl_watable⟩)
    (c_watable : PySem.W.codeIn K cd_watable "Walk.table" = true)
    (k_watable : PySem.W.keepIn K (.ref f_watable) = true)
    (a_waeds : PySem.W.findIn K (.ref C_Walk) "editions" = some (some (.ref f_waeds)))
    (i_waeds : PySem.W.isFn K (.ref f_waeds) = true)
    (l_waeds : K.lookup f_waeds = some ⟨oc_waeds, od_waeds, .func (PySem.W.fnOf "editions" "Walk.editions" (defArgs s_Walk_editions) (defBody s_Walk_editions) (defScope s_Walk_editions) .none kV_waeds dc_waeds pm_waeds an_waeds cd_waeds ct_waeds), sl_waeds⟩)
    (c_waeds : PySem.W.codeIn K cd_waeds "Walk.editions" = true)
    (k_waeds : PySem.W.keepIn K (.ref f_waeds) = true)
    (a_walen : PySem.W.findIn K (.ref C_Walk) "__len__" = some (some (.ref f_walen)))
    (i_walen : PySem.W.isFn K (.ref f_walen) = true)
    (l_walen : K.lookup f_walen = some ⟨oc_walen, od_walen, .func (PySem.W.fnOf "__len__" "Walk.__len__" (defArgs s_Walk_len) (defBody s_Walk_len) (defScope s_Walk_len) .none kV_walen dc_walen pm_walen an_walen cd_walen ct_walen), sl_walen⟩)
    (c_walen : PySem.W.codeIn K cd_walen "Walk.__len__" = true)
    (k_walen : PySem.W.keepIn K (.ref f_walen) = true)
    (a_wacall : PySem.W.findIn K (.ref C_Walk) "__call__" = some (some (.ref f_wacall)))
    (i_wacall : PySem.W.isFn K (.ref f_wacall) = true)
    (l_wacall : K.lookup f_wacall = some ⟨oc_wacall, od_wacall, .func (PySem.W.fnOf "__call__" "Walk.__call__" (defArgs s_Walk_call) (defBody s_Walk_call) (defScope s_Walk_call) .none kV_wacall dc_wacall pm_wacall an_wacall cd_wacall ct_wacall), sl_wacall⟩)
    (c_wacall : PySem.W.codeIn K cd_wacall "Walk.__call__" = true)
    (k_wacall : PySem.W.keepIn K (.ref f_wacall) = true)
    (a_base : PySem.W.nsIn K mainGlobals "_law_base" = some (some (.ref f_base)))
    (l_base : K.lookup f_base = some ⟨oc_base, od_base, .func (PySem.W.fnOf "_law_base" "_law_base" (defArgs s_base) (defBody s_base) (defScope s_base) .none kV_base dc_base pm_base an_base cd_base ct_base), sl_base⟩)
    (c_base : PySem.W.codeIn K cd_base "_law_base" = true)
    (k_base : PySem.W.keepIn K (.ref f_base) = true)
    (a_edn : PySem.W.nsIn K mainGlobals "_law_edition" = some (some (.ref f_edn)))
    (l_edn : K.lookup f_edn = some ⟨oc_edn, od_edn, .func (PySem.W.fnOf "_law_edition" "_law_edition" (defArgs s_edition) (defBody s_edition) (defScope s_edition) .none kV_edn dc_edn pm_edn an_edn cd_edn ct_edn), sl_edn⟩)
    (c_edn : PySem.W.codeIn K cd_edn "_law_edition" = true)
    (k_edn : PySem.W.keepIn K (.ref f_edn) = true)
    (a_kernsL : PySem.W.nsIn K mainGlobals "_law_kernels" = some (some (.ref f_kernsL)))
    (l_kernsL : K.lookup f_kernsL = some ⟨oc_kernsL, od_kernsL, .func (PySem.W.fnOf "_law_kernels" "_law_kernels" (defArgs s_kernels) (defBody s_kernels) (defScope s_kernels) .none kV_kernsL dc_kernsL pm_kernsL an_kernsL cd_kernsL ct_kernsL), sl_kernsL⟩)
    (c_kernsL : PySem.W.codeIn K cd_kernsL "_law_kernels" = true)
    (k_kernsL : PySem.W.keepIn K (.ref f_kernsL) = true)
    (a_tableL : PySem.W.nsIn K mainGlobals "_law_table" = some (some (.ref f_tableL)))
    (l_tableL : K.lookup f_tableL = some ⟨oc_tableL, od_tableL, .func (PySem.W.fnOf "_law_table" "_law_table" (defArgs s_table) (defBody s_table) (defScope s_table) .none kV_tableL dc_tableL pm_tableL an_tableL cd_tableL ct_tableL), sl_tableL⟩)
    (c_tableL : PySem.W.codeIn K cd_tableL "_law_table" = true)
    (k_tableL : PySem.W.keepIn K (.ref f_tableL) = true)
    (a_rowsL : PySem.W.nsIn K mainGlobals "_law_rows" = some (some (.ref f_rowsL)))
    (l_rowsL : K.lookup f_rowsL = some ⟨oc_rowsL, od_rowsL, .func (PySem.W.fnOf "_law_rows" "_law_rows" (defArgs s_rows) (defBody s_rows) (defScope s_rows) .none kV_rowsL dc_rowsL pm_rowsL an_rowsL cd_rowsL ct_rowsL), sl_rowsL⟩)
    (c_rowsL : PySem.W.codeIn K cd_rowsL "_law_rows" = true)
    (k_rowsL : PySem.W.keepIn K (.ref f_rowsL) = true)
    (a_refused : PySem.W.nsIn K mainGlobals "_law_refused" = some (some (.ref f_refused)))
    (l_refused : K.lookup f_refused = some ⟨oc_refused, od_refused, .func (PySem.W.fnOf "_law_refused" "_law_refused" (defArgs s_refused) (defBody s_refused) (defScope s_refused) .none kV_refused dc_refused pm_refused an_refused cd_refused ct_refused), sl_refused⟩)
    (c_refused : PySem.W.codeIn K cd_refused "_law_refused" = true)
    (k_refused : PySem.W.keepIn K (.ref f_refused) = true)
    (a_law : PySem.W.nsIn K mainGlobals "law" = some (some (.ref f_law)))
    (l_law : K.lookup f_law = some ⟨oc_law, od_law, .func (PySem.W.fnOf "law" "law" (defArgs s_law) (defBody s_law) (defScope s_law) .none kV_law dc_law pm_law an_law cd_law ct_law), sl_law⟩)
    (c_law : PySem.W.codeIn K cd_law "law" = true)
    (k_law : PySem.W.keepIn K (.ref f_law) = true)
    (g_LETTERS : PySem.W.nsIn K mainGlobals "LETTERS" = some (some (.str "abcdefghijklmnopqrstuvwxyz" tL)))
    (g_LONGEST_WORD : PySem.W.nsIn K mainGlobals "LONGEST_WORD" = some (some (.int 8 tW)))
    (z_len : PySem.W.nsIn K mainGlobals "len" = some none)
    (z_int : PySem.W.nsIn K mainGlobals "int" = some none)
    (z_range : PySem.W.nsIn K mainGlobals "range" = some none)
    (z_enumerate : PySem.W.nsIn K mainGlobals "enumerate" = some none)
    (z_isinstance : PySem.W.nsIn K mainGlobals "isinstance" = some none)
    (z_list : PySem.W.nsIn K mainGlobals "list" = some none)
    (z_tuple : PySem.W.nsIn K mainGlobals "tuple" = some none)
    (z_str : PySem.W.nsIn K mainGlobals "str" = some none)
    (z_bool : PySem.W.nsIn K mainGlobals "bool" = some none)
    (z_all : PySem.W.nsIn K mainGlobals "all" = some none)
    (z_max : PySem.W.nsIn K mainGlobals "max" = some none)
    (z_zip : PySem.W.nsIn K mainGlobals "zip" = some none)
    : ∃ fd : FuncData, (∀ (s : Shared) (v : Value), BindsTo s fd ⟨[v], []⟩ [("_law_script", v)]) ∧ ∀ base : Heap, K.In base → base.Ns mainGlobals mg → FnOk l.prog w K mg base CX0 8 fa fd ["_law_script"] (spLaw K) := by
  have e := hfa.symm.trans (PySem.W.mg_of X G a_law)
  cases e
  have T : Blt mg := ⟨PySem.W.mg_none_of X G z_len, PySem.W.mg_none_of X G z_int, PySem.W.mg_none_of X G z_range, PySem.W.mg_none_of X G z_enumerate, PySem.W.mg_none_of X G z_isinstance, PySem.W.mg_none_of X G z_list, PySem.W.mg_none_of X G z_tuple, PySem.W.mg_none_of X G z_str, PySem.W.mg_none_of X G z_bool, PySem.W.mg_none_of X G z_all, PySem.W.mg_none_of X G z_max, PySem.W.mg_none_of X G z_zip⟩
  have cl_Work : Cls K C_Work := ⟨pg_Work, hd_Work, po_Work, sa_Work⟩
  have mg_Work := PySem.W.mg_of X G a_Work
  have cl_Edition : Cls K C_Edition := ⟨pg_Edition, hd_Edition, po_Edition, sa_Edition⟩
  have mg_Edition := PySem.W.mg_of X G a_Edition
  have cl_Walk : Cls K C_Walk := ⟨pg_Walk, hd_Walk, po_Walk, sa_Walk⟩
  have mg_Walk := PySem.W.mg_of X G a_Walk
  have TC : Cst mg tL tW := ⟨PySem.W.mg_of X G g_LETTERS, PySem.W.mg_of X G g_LONGEST_WORD⟩
  have WT : WkTxt K C_Work := ⟨cl_Work, n_Work_name, n_Work_words, n_Work_ends⟩
  have ET : EdTxt K C_Edition := ⟨cl_Edition, n_Edition_work, n_Edition_words, n_Edition_cuts, n_Edition_counts⟩
  have TI : WkIsi K mg C_Work := ⟨mg_Work, ha_Work, hn_Work, htk_Work, hm_Work, if_pos (beq_self_eq_true _)⟩
  have EI : EdIsi K mg C_Edition := ⟨mg_Edition, ha_Edition, hn_Work, htk_Work, hm_Edition, if_pos (beq_self_eq_true _)⟩
  have VT : WaTxt K C_Walk := ⟨cl_Walk, n_Walk_work, n_Walk_steps⟩
  have TB : ErrF K mg "BadCut" C_BC f_bcinit "number" := ⟨PySem.W.mg_of X G aBC, ⟨⟨_, _, _, _, _, _, _, _, _, _, _, _, _, _, _, oBC, rBC⟩, sBC, bBC, tBC, kBC⟩, ⟨gaBC, ggBC, bBC, hdBC⟩, iBC, tyBC, noBC, icBC, seBC⟩
  have F_fresh := fun_mk (st := s_fresh) l_fresh c_fresh k_fresh
  have b_fresh := F_fresh.binds (ps := ["_law_script"]) fun _ _ _ _ _ _ us hl => match us, hl with | [_], _ => rfl
  have F_fill := fun_mk (st := s_fill) l_fill c_fill k_fill
  have b_fill := F_fill.binds (ps := ["_law_state"]) fun _ _ _ _ _ _ us hl => match us, hl with | [_], _ => rfl
  have F_take := fun_mk (st := s_take) l_take c_take k_take
  have b_take := F_take.binds (ps := ["_law_state", "_law_many_here"]) fun _ _ _ _ _ _ us hl => match us, hl with | [_, _], _ => rfl
  have F_one := fun_mk (st := s_one) l_one c_one k_one
  have b_one := F_one.binds (ps := ["_law_state", "_law_things"]) fun _ _ _ _ _ _ us hl => match us, hl with | [_, _], _ => rfl
  have F_same := fun_mk (st := s_same) l_same c_same k_same
  have b_same := F_same.binds (ps := ["_law_found", "_law_due"]) fun _ _ _ _ _ _ us hl => match us, hl with | [_, _], _ => rfl
  have F_allw := fun_mk (st := s_all_words) l_allw c_allw k_allw
  have b_allw := F_allw.binds (ps := []) fun _ _ _ _ _ _ us hl => match us, hl with | [], _ => rfl
  have F_somew := fun_mk (st := s_some_words) l_somew c_somew k_somew
  have b_somew := F_somew.binds (ps := ["_law_state", "_law_many_here"]) fun _ _ _ _ _ _ us hl => match us, hl with | [_, _], _ => rfl
  have F_many := fun_mk (st := s_many) l_many c_many k_many
  have b_many := F_many.binds (ps := ["_law_state"]) fun _ _ _ _ _ _ us hl => match us, hl with | [_], _ => rfl
  have F_handed := fun_mk (st := s_handed) l_handed c_handed k_handed
  have b_handed := F_handed.binds (ps := ["_law_state", "_law_things"]) fun _ _ _ _ _ _ us hl => match us, hl with | [_, _], _ => rfl
  have F_spoilt := fun_mk (st := s_spoilt) l_spoilt c_spoilt k_spoilt
  have b_spoilt := F_spoilt.binds (ps := ["_law_things"]) fun _ _ _ _ _ _ us hl => match us, hl with | [_], _ => rfl
  have F_kept := fun_mk (st := s_kept) l_kept c_kept k_kept
  have b_kept := F_kept.binds (ps := ["_law_state", "_law_many_here"]) fun _ _ _ _ _ _ us hl => match us, hl with | [_, _], _ => rfl
  have F_isnum := fun_mk (st := s_is_number) l_isnum c_isnum k_isnum
  have b_isnum := F_isnum.binds (ps := ["x"]) fun _ _ _ _ _ _ us hl => match us, hl with | [_], _ => rfl
  have F_upto := fun_mk (st := s_is_up_to) l_upto c_upto k_upto
  have b_upto := F_upto.binds (ps := ["x", "most"]) fun _ _ _ _ _ _ us hl => match us, hl with | [_, _], _ => rfl
  have F_isrow := fun_mk (st := s_is_row) l_isrow c_isrow k_isrow
  have b_isrow := F_isrow.binds (ps := ["x"]) fun _ _ _ _ _ _ us hl => match us, hl with | [_], _ => rfl
  have F_isword := fun_mk (st := s_is_word) l_isword c_isword k_isword
  have b_isword := F_isword.binds (ps := ["x"]) fun _ _ _ _ _ _ us hl => match us, hl with | [_], _ => rfl
  have F_wkinit := fun_mk (st := s_Work_init) l_wkinit c_wkinit k_wkinit
  have b_wkinit := F_wkinit.binds (ps := ["self", "name", "passages"]) fun _ _ _ _ _ _ us hl => match us, hl with | [_, _, _], _ => rfl
  have F_wklen := fun_mk (st := s_Work_len) l_wklen c_wklen k_wklen
  have b_wklen := F_wklen.binds (ps := ["self"]) fun _ _ _ _ _ _ us hl => match us, hl with | [_], _ => rfl
  have F_wkin := fun_mk (st := s_Work_contains) l_wkin c_wkin k_wkin
  have b_wkin := F_wkin.binds (ps := ["self", "x"]) fun _ _ _ _ _ _ us hl => match us, hl with | [_, _], _ => rfl
  have F_wkend := fun_mk (st := s_Work_end_of) l_wkend c_wkend k_wkend
  have b_wkend := F_wkend.binds (ps := ["self", "word"]) fun _ _ _ _ _ _ us hl => match us, hl with | [_, _], _ => rfl
  have F_wkeq := fun_mk (st := s_Work_eq) l_wkeq c_wkeq k_wkeq
  have b_wkeq := F_wkeq.binds (ps := ["self", "other"]) fun _ _ _ _ _ _ us hl => match us, hl with | [_, _], _ => rfl
  have F_cuts := fun_mk (st := s_cuts_behind) l_cuts c_cuts k_cuts
  have b_cuts := F_cuts.binds (ps := ["work", "passages"]) fun _ _ _ _ _ _ us hl => match us, hl with | [_, _], _ => rfl
  have F_counts := fun_mk (st := s_counts_at) l_counts c_counts k_counts
  have b_counts := F_counts.binds (ps := ["cuts", "length"]) fun _ _ _ _ _ _ us hl => match us, hl with | [_, _], _ => rfl
  have F_edinit := fun_mk (st := s_Edition_init) l_edinit c_edinit k_edinit
  have b_edinit := F_edinit.binds (ps := ["self", "work", "passages"]) fun _ _ _ _ _ _ us hl => match us, hl with | [_, _, _], _ => rfl
  have F_edkern := fun_mk (st := s_Edition_kernels) l_edkern c_edkern k_edkern
  have b_edkern := F_edkern.binds (ps := ["self"]) fun _ _ _ _ _ _ us hl => match us, hl with | [_], _ => rfl
  have F_edeq := fun_mk (st := s_Edition_eq) l_edeq c_edeq k_edeq
  have b_edeq := F_edeq.binds (ps := ["self", "other"]) fun _ _ _ _ _ _ us hl => match us, hl with | [_, _], _ => rfl
  have F_bcinit := fun_mk (st := s_BadCut_init) l_bcinit c_bcinit k_bcinit
  have b_bcinit := F_bcinit.binds (ps := ["self", "number"]) fun _ _ _ _ _ _ us hl => match us, hl with | [_, _], _ => rfl
  have F_rcut := fun_mk (st := s_require_cut) l_rcut c_rcut k_rcut
  have b_rcut := F_rcut.binds (ps := ["cut", "work"]) fun _ _ _ _ _ _ us hl => match us, hl with | [_, _], _ => rfl
  have F_ised := fun_mk (st := s_is_edition_of) l_ised c_ised k_ised
  have b_ised := F_ised.binds (ps := ["thing", "work"]) fun _ _ _ _ _ _ us hl => match us, hl with | [_, _], _ => rfl
  have F_told := fun_mk (st := s_told_behind) l_told c_told k_told
  have b_told := F_told.binds (ps := ["steps", "cuts"]) fun _ _ _ _ _ _ us hl => match us, hl with | [_, _], _ => rfl
  have F_wainit := fun_mk (st := s_Walk_init) l_wainit c_wainit k_wainit
  have b_wainit := F_wainit.binds (ps := ["self", "work", "editions"]) fun _ _ _ _ _ _ us hl => match us, hl with | [_, _, _], _ => rfl
  have F_watable := fun_mk (st := s_Walk_table) l_watable c_watable k_watable
  have b_watable := F_watable.binds (ps := ["self"]) fun _ _ _ _ _ _ us hl => match us, hl with | [_], _ => rfl
  have F_waeds := fun_mk (st := s_Walk_editions) l_waeds c_waeds k_waeds
  have b_waeds := F_waeds.binds (ps := ["self"]) fun _ _ _ _ _ _ us hl => match us, hl with | [_], _ => rfl
  have F_walen := fun_mk (st := s_Walk_len) l_walen c_walen k_walen
  have b_walen := F_walen.binds (ps := ["self"]) fun _ _ _ _ _ _ us hl => match us, hl with | [_], _ => rfl
  have F_wacall := fun_mk (st := s_Walk_call) l_wacall c_wacall k_wacall
  have b_wacall := F_wacall.binds (ps := ["self", "cut"]) fun _ _ _ _ _ _ us hl => match us, hl with | [_, _], _ => rfl
  have F_base := fun_mk (st := s_base) l_base c_base k_base
  have b_base := F_base.binds (ps := ["_law_state", "_law_many_here"]) fun _ _ _ _ _ _ us hl => match us, hl with | [_, _], _ => rfl
  have F_edn := fun_mk (st := s_edition) l_edn c_edn k_edn
  have b_edn := F_edn.binds (ps := ["_law_base_here", "_law_rows_here", "_law_numbers"]) fun _ _ _ _ _ _ us hl => match us, hl with | [_, _, _], _ => rfl
  have F_kernsL := fun_mk (st := s_kernels) l_kernsL c_kernsL k_kernsL
  have b_kernsL := F_kernsL.binds (ps := ["_law_numbers", "_law_many_here"]) fun _ _ _ _ _ _ us hl => match us, hl with | [_, _], _ => rfl
  have F_tableL := fun_mk (st := s_table) l_tableL c_tableL k_tableL
  have b_tableL := F_tableL.binds (ps := ["_law_some", "_law_many_here"]) fun _ _ _ _ _ _ us hl => match us, hl with | [_, _], _ => rfl
  have F_rowsL := fun_mk (st := s_rows) l_rowsL c_rowsL k_rowsL
  have b_rowsL := F_rowsL.binds (ps := ["_law_state", "_law_many_here", "_law_most"]) fun _ _ _ _ _ _ us hl => match us, hl with | [_, _, _], _ => rfl
  have F_refused := fun_mk (st := s_refused) l_refused c_refused k_refused
  have b_refused := F_refused.binds (ps := ["_law_made", "_law_x"]) fun _ _ _ _ _ _ us hl => match us, hl with | [_, _], _ => rfl
  have F_law := fun_mk (st := s_law) l_law c_law k_law
  refine ⟨PySem.W.fnOf "law" "law" (defArgs s_law) (defBody s_law) (defScope s_law) .none kV_law dc_law pm_law an_law cd_law ct_law, fun s v => .of_eq rfl, fun base _ _ => ?_⟩
  have O_fresh : FnOk l.prog w K mg base CX0 1 f_fresh _ ["_law_script"] (spFresh K) := ok_fresh F_fresh T
  have D_fresh : DefOk l.prog w K mg base 1 "_law_fresh" f_fresh _ ["_law_script"] (spFresh K) := ⟨O_fresh, k_fresh, b_fresh, PySem.W.mg_of X G a_fresh⟩
  have O_fill : FnOk l.prog w K mg base CX0 1 f_fill _ ["_law_state"] spFill := ok_fill F_fill T
  have D_fill : DefOk l.prog w K mg base 1 "_law_fill" f_fill _ ["_law_state"] spFill := ⟨O_fill, k_fill, b_fill, PySem.W.mg_of X G a_fill⟩
  have O_take : FnOk l.prog w K mg base CX0 2 f_take _ ["_law_state", "_law_many_here"] spTake := ok_take F_take T D_fill
  have D_take : DefOk l.prog w K mg base 2 "_law_take" f_take _ ["_law_state", "_law_many_here"] spTake := ⟨O_take, k_take, b_take, PySem.W.mg_of X G a_take⟩
  have O_one : FnOk l.prog w K mg base CX0 3 f_one _ ["_law_state", "_law_things"] (spOneA K) := ok_oneA F_one T D_take
  have D_one : DefOk l.prog w K mg base 3 "_law_one" f_one _ ["_law_state", "_law_things"] (spOneA K) := ⟨O_one, k_one, b_one, PySem.W.mg_of X G a_one⟩
  have O_same : FnOk l.prog w K mg base CX0 3 f_same _ ["_law_found", "_law_due"] (spSame 3) := (ok_same (d := 2) F_same T ⟨(ok_same (d := 1) F_same T ⟨(ok_same (d := 0) F_same T ⟨(ok_none.imp fun _ _ _ _ ⟨_, _, _, h, _⟩ => h.elim), k_same, b_same, PySem.W.mg_of X G a_same⟩), k_same, b_same, PySem.W.mg_of X G a_same⟩), k_same, b_same, PySem.W.mg_of X G a_same⟩)
  have D_same : DefOk l.prog w K mg base 3 "_law_same" f_same _ ["_law_found", "_law_due"] (spSame 3) := ⟨O_same, k_same, b_same, PySem.W.mg_of X G a_same⟩
  have O_allw : FnOk l.prog w K mg base CX0 1 f_allw _ [] spAllW := ok_all_words F_allw T
  have D_all_words : DefOk l.prog w K mg base 1 "_law_all_words" f_allw _ [] spAllW := ⟨O_allw, k_allw, b_allw, PySem.W.mg_of X G a_allw⟩
  have O_somew : FnOk l.prog w K mg base CX0 3 f_somew _ ["_law_state", "_law_many_here"] spSomeW := ok_some_words F_somew T D_take D_all_words
  have D_some_words : DefOk l.prog w K mg base 3 "_law_some_words" f_somew _ ["_law_state", "_law_many_here"] spSomeW := ⟨O_somew, k_somew, b_somew, PySem.W.mg_of X G a_somew⟩
  have O_many : FnOk l.prog w K mg base CX0 4 f_many _ ["_law_state"] spMany := ok_many F_many D_one
  have D_many : DefOk l.prog w K mg base 4 "_law_many" f_many _ ["_law_state"] spMany := ⟨O_many, k_many, b_many, PySem.W.mg_of X G a_many⟩
  have O_handed : FnOk l.prog w K mg base CX0 3 f_handed _ ["_law_state", "_law_things"] spHanded := ok_handed F_handed T D_take
  have D_handed : DefOk l.prog w K mg base 3 "_law_handed" f_handed _ ["_law_state", "_law_things"] spHanded := ⟨O_handed, k_handed, b_handed, PySem.W.mg_of X G a_handed⟩
  have O_spoilt : FnOk l.prog w K mg base CX0 1 f_spoilt _ ["_law_things"] spSpoilt := ok_spoilt F_spoilt T
  have D_spoilt : DefOk l.prog w K mg base 1 "_law_spoilt" f_spoilt _ ["_law_things"] spSpoilt := ⟨O_spoilt, k_spoilt, b_spoilt, PySem.W.mg_of X G a_spoilt⟩
  have O_kept : FnOk l.prog w K mg base CX0 4 f_kept _ ["_law_state", "_law_many_here"] spKept := ok_kept F_kept T D_take ⟨(ok_one F_one T D_take), k_one, b_one, PySem.W.mg_of X G a_one⟩
  have D_kept : DefOk l.prog w K mg base 4 "_law_kept" f_kept _ ["_law_state", "_law_many_here"] spKept := ⟨O_kept, k_kept, b_kept, PySem.W.mg_of X G a_kept⟩
  have O_isnum : FnOk l.prog w K mg base CX0 1 f_isnum _ ["x"] spIsNum := ok_is_number F_isnum T
  have D_is_number : DefOk l.prog w K mg base 1 "is_number" f_isnum _ ["x"] spIsNum := ⟨O_isnum, k_isnum, b_isnum, PySem.W.mg_of X G a_isnum⟩
  have D_is_numberA : DefOk l.prog w K mg base 1 "is_number" f_isnum _ ["x"] (spIsNumA K) := ⟨ok_is_numberA F_isnum T, k_isnum, b_isnum, PySem.W.mg_of X G a_isnum⟩
  have O_upto : FnOk l.prog w K mg base CX0 2 f_upto _ ["x", "most"] spUpTo := ok_is_up_to F_upto T D_is_number
  have D_is_up_to : DefOk l.prog w K mg base 2 "is_up_to" f_upto _ ["x", "most"] spUpTo := ⟨O_upto, k_upto, b_upto, PySem.W.mg_of X G a_upto⟩
  have D_is_up_toA : DefOk l.prog w K mg base 2 "is_up_to" f_upto _ ["x", "most"] (spUpToA K) := ⟨ok_is_up_toA F_upto T D_is_numberA, k_upto, b_upto, PySem.W.mg_of X G a_upto⟩
  have O_isrow : FnOk l.prog w K mg base CX0 1 f_isrow _ ["x"] spIsRow := ok_is_row F_isrow T
  have D_is_row : DefOk l.prog w K mg base 1 "is_row" f_isrow _ ["x"] spIsRow := ⟨O_isrow, k_isrow, b_isrow, PySem.W.mg_of X G a_isrow⟩
  have O_isword : FnOk l.prog w K mg base CX0 1 f_isword _ ["x"] spIsWord := ok_is_word F_isword T TC
  have D_is_word : DefOk l.prog w K mg base 1 "is_word" f_isword _ ["x"] spIsWord := ⟨O_isword, k_isword, b_isword, PySem.W.mg_of X G a_isword⟩
  have O_wkinit : FnOk l.prog w K mg base CX0 2 f_wkinit _ ["self", "name", "passages"] (spWkInit C_Work) := ok_wk_init F_wkinit T WT D_is_word D_is_row
  have K_Work : ClsOk l.prog w K mg base 2 "Work" C_Work f_wkinit _ ["self", "name", "passages"] (spWkInit C_Work) := ⟨O_wkinit, b_wkinit, ⟨mk_Work, a_wkinit, i_wkinit, kc_Work⟩, cl_Work, mg_Work⟩
  have O_wklen : FnOk l.prog w K mg base CX0 1 f_wklen _ ["self"] (spWkLen C_Work) := ok_wk_len F_wklen T WT
  have M_Work_len : MetOk l.prog w K mg base 1 C_Work "__len__" f_wklen _ ["self"] (spWkLen C_Work) := ⟨O_wklen, b_wklen, ⟨a_wklen, i_wklen, k_wklen⟩, cl_Work⟩
  have O_wkin : FnOk l.prog w K mg base CX0 1 f_wkin _ ["self", "x"] (spWkIn C_Work) := ok_wk_in F_wkin T WT
  have M_Work_contains : MetOk l.prog w K mg base 1 C_Work "__contains__" f_wkin _ ["self", "x"] (spWkIn C_Work) := ⟨O_wkin, b_wkin, ⟨a_wkin, i_wkin, k_wkin⟩, cl_Work⟩
  have O_wkend : FnOk l.prog w K mg base CX0 2 f_wkend _ ["self", "word"] (spWkEnd C_Work) := ok_wk_end F_wkend T WT M_Work_contains
  have M_Work_end_of : MetOk l.prog w K mg base 2 C_Work "end_of" f_wkend _ ["self", "word"] (spWkEnd C_Work) := ⟨O_wkend, b_wkend, ⟨a_wkend, i_wkend, k_wkend⟩, cl_Work⟩
  have O_wkeq : FnOk l.prog w K mg base CX0 1 f_wkeq _ ["self", "other"] (spWkEqA K C_Work) := ok_wk_eqA F_wkeq T WT TI
  have M_Work_eq : MetOk l.prog w K mg base 1 C_Work "__eq__" f_wkeq _ ["self", "other"] (spWkEqA K C_Work) := ⟨O_wkeq, b_wkeq, ⟨a_wkeq, i_wkeq, k_wkeq⟩, cl_Work⟩
  have M_Work_eq0 : MetOk l.prog w K mg base 1 C_Work "__eq__" f_wkeq _ ["self", "other"] (spWkEq C_Work) := ⟨ok_wk_eq F_wkeq T WT TI, b_wkeq, ⟨a_wkeq, i_wkeq, k_wkeq⟩, cl_Work⟩
  have O_cuts : FnOk l.prog w K mg base CX0 3 f_cuts _ ["work", "passages"] (spCuts C_Work) := ok_cuts F_cuts T D_is_row M_Work_end_of
  have D_cuts_behind : DefOk l.prog w K mg base 3 "cuts_behind" f_cuts _ ["work", "passages"] (spCuts C_Work) := ⟨O_cuts, k_cuts, b_cuts, PySem.W.mg_of X G a_cuts⟩
  have O_counts : FnOk l.prog w K mg base CX0 1 f_counts _ ["cuts", "length"] spCounts := ok_counts F_counts T
  have D_counts_at : DefOk l.prog w K mg base 1 "counts_at" f_counts _ ["cuts", "length"] spCounts := ⟨O_counts, k_counts, b_counts, PySem.W.mg_of X G a_counts⟩
  have O_edinit : FnOk l.prog w K mg base CX0 4 f_edinit _ ["self", "work", "passages"] (spEdInit C_Work C_Edition) := ok_ed_init F_edinit T ET D_cuts_behind D_counts_at M_Work_len
  have K_Edition : ClsOk l.prog w K mg base 4 "Edition" C_Edition f_edinit _ ["self", "work", "passages"] (spEdInit C_Work C_Edition) := ⟨O_edinit, b_edinit, ⟨mk_Edition, a_edinit, i_edinit, kc_Edition⟩, cl_Edition, mg_Edition⟩
  have O_edkern : FnOk l.prog w K mg base CX0 1 f_edkern _ ["self"] (spKernels C_Work C_Edition) := ok_kernels F_edkern ET
  have M_Edition_kernels : MetOk l.prog w K mg base 1 C_Edition "kernels" f_edkern _ ["self"] (spKernels C_Work C_Edition) := ⟨O_edkern, b_edkern, ⟨a_edkern, i_edkern, k_edkern⟩, cl_Edition⟩
  have O_edeq : FnOk l.prog w K mg base CX0 2 f_edeq _ ["self", "other"] (spEdEqA K C_Work C_Edition) := ok_ed_eqA F_edeq T ET EI M_Work_eq
  have M_Edition_eq : MetOk l.prog w K mg base 2 C_Edition "__eq__" f_edeq _ ["self", "other"] (spEdEqA K C_Work C_Edition) := ⟨O_edeq, b_edeq, ⟨a_edeq, i_edeq, k_edeq⟩, cl_Edition⟩
  have O_bcinit : FnOk l.prog w K mg base CX0 1 f_bcinit _ ["self", "number"] (spErrI C_BC "number") := ok_bad_cut F_bcinit TB.T TB.no
  have IB : ErrI l.prog w K mg base C_BC f_bcinit _ "number" := ⟨O_bcinit, b_bcinit⟩
  have O_rcut : FnOk l.prog w K mg base CX0 3 f_rcut _ ["cut", "work"] (spReqCut C_Work) := ok_req_cut F_rcut T D_is_up_to M_Work_len
  have D_require_cut : DefOk l.prog w K mg base 3 "require_cut" f_rcut _ ["cut", "work"] (spReqCut C_Work) := ⟨O_rcut, k_rcut, b_rcut, PySem.W.mg_of X G a_rcut⟩
  have D_require_cutX : DefOkX l.prog w K mg base 3 "require_cut" f_rcut _ ["cut", "work"] (spReqCutX K C_Work C_BC) := ⟨ok_req_cutX F_rcut T TB IB D_is_up_toA M_Work_len, k_rcut, b_rcut, PySem.W.mg_of X G a_rcut⟩
  have O_ised : FnOk l.prog w K mg base CX0 2 f_ised _ ["thing", "work"] (spIsEdOf C_Work C_Edition) := ok_is_ed F_ised T ET EI M_Work_eq0
  have D_is_edition_of : DefOk l.prog w K mg base 2 "is_edition_of" f_ised _ ["thing", "work"] (spIsEdOf C_Work C_Edition) := ⟨O_ised, k_ised, b_ised, PySem.W.mg_of X G a_ised⟩
  have O_told : FnOk l.prog w K mg base CX0 2 f_told _ ["steps", "cuts"] (spTold C_Work C_Edition) := ok_told F_told M_Edition_kernels
  have D_told_behind : DefOk l.prog w K mg base 2 "told_behind" f_told _ ["steps", "cuts"] (spTold C_Work C_Edition) := ⟨O_told, k_told, b_told, PySem.W.mg_of X G a_told⟩
  have O_wainit : FnOk l.prog w K mg base CX0 3 f_wainit _ ["self", "work", "editions"] (spWaInit C_Work C_Edition C_Walk) := ok_wa_init F_wainit T VT D_is_row D_is_edition_of
  have K_Walk : ClsOk l.prog w K mg base 3 "Walk" C_Walk f_wainit _ ["self", "work", "editions"] (spWaInit C_Work C_Edition C_Walk) := ⟨O_wainit, b_wainit, ⟨mk_Walk, a_wainit, i_wainit, kc_Walk⟩, cl_Walk, mg_Walk⟩
  have B_Walk : KBn K _ ["self", "work", "editions"] 1 ["editions", "work"] swapR swapR := Lm.Fun.swap F_wainit fun _ _ _ _ _ _ _ _ _ => rfl
  have O_watable : FnOk l.prog w K mg base CX0 3 f_watable _ ["self"] (spWaTable C_Work C_Edition C_Walk) := ok_wa_table F_watable T VT D_told_behind M_Work_len
  have M_Walk_table : MetOk l.prog w K mg base 3 C_Walk "table" f_watable _ ["self"] (spWaTable C_Work C_Edition C_Walk) := ⟨O_watable, b_watable, ⟨a_watable, i_watable, k_watable⟩, cl_Walk⟩
  have O_waeds : FnOk l.prog w K mg base CX0 1 f_waeds _ ["self"] (spWaEds C_Work C_Edition C_Walk) := ok_wa_eds F_waeds T VT
  have M_Walk_editions : MetOk l.prog w K mg base 1 C_Walk "editions" f_waeds _ ["self"] (spWaEds C_Work C_Edition C_Walk) := ⟨O_waeds, b_waeds, ⟨a_waeds, i_waeds, k_waeds⟩, cl_Walk⟩
  have O_walen : FnOk l.prog w K mg base CX0 1 f_walen _ ["self"] (spWaLen C_Work C_Edition C_Walk) := ok_wa_len F_walen T VT
  have M_Walk_len : MetOk l.prog w K mg base 1 C_Walk "__len__" f_walen _ ["self"] (spWaLen C_Work C_Edition C_Walk) := ⟨O_walen, b_walen, ⟨a_walen, i_walen, k_walen⟩, cl_Walk⟩
  have O_wacall : FnOk l.prog w K mg base CX0 4 f_wacall _ ["self", "cut"] (spWaCall C_Work C_Edition C_Walk) := ok_wa_call F_wacall VT D_require_cut D_told_behind
  have M_Walk_call : MetOk l.prog w K mg base 4 C_Walk "__call__" f_wacall _ ["self", "cut"] (spWaCall C_Work C_Edition C_Walk) := ⟨O_wacall, b_wacall, ⟨a_wacall, i_wacall, k_wacall⟩, cl_Walk⟩
  have M_Walk_callX : MetOkX l.prog w K mg base 4 C_Walk "__call__" f_wacall _ ["self", "cut"] (spWaCallX K C_Work C_Edition C_Walk C_BC) := ⟨ok_wa_callX F_wacall VT D_require_cutX D_told_behind, b_wacall, ⟨a_wacall, i_wacall, k_wacall⟩, cl_Walk⟩
  have CM : CallM K C_Walk f_wacall := ⟨a_wacall, i_wacall, fnWC⟩
  have B_Walk_call : KBn K _ ["self", "cut"] 1 ["cut"] oneR oneR := Lm.Fun.kone F_wacall fun _ _ _ _ _ _ _ _ => rfl
  have O_base : FnOk l.prog w K mg base CX0 4 f_base _ ["_law_state", "_law_many_here"] (spBase C_Work) := ok_base F_base T D_some_words K_Work
  have D_base : DefOk l.prog w K mg base 4 "_law_base" f_base _ ["_law_state", "_law_many_here"] (spBase C_Work) := ⟨O_base, k_base, b_base, PySem.W.mg_of X G a_base⟩
  have O_edn : FnOk l.prog w K mg base CX0 6 f_edn _ ["_law_base_here", "_law_rows_here", "_law_numbers"] (spEdn C_Work C_Edition) := ok_edn F_edn K_Edition
  have D_edition : DefOk l.prog w K mg base 6 "_law_edition" f_edn _ ["_law_base_here", "_law_rows_here", "_law_numbers"] (spEdn C_Work C_Edition) := ⟨O_edn, k_edn, b_edn, PySem.W.mg_of X G a_edn⟩
  have O_kernsL : FnOk l.prog w K mg base CX0 1 f_kernsL _ ["_law_numbers", "_law_many_here"] spKernsL := ok_kernelsL F_kernsL T
  have D_kernels : DefOk l.prog w K mg base 1 "_law_kernels" f_kernsL _ ["_law_numbers", "_law_many_here"] spKernsL := ⟨O_kernsL, k_kernsL, b_kernsL, PySem.W.mg_of X G a_kernsL⟩
  have O_tableL : FnOk l.prog w K mg base CX0 2 f_tableL _ ["_law_some", "_law_many_here"] spTableL := ok_tableL F_tableL T D_kernels
  have D_table : DefOk l.prog w K mg base 2 "_law_table" f_tableL _ ["_law_some", "_law_many_here"] spTableL := ⟨O_tableL, k_tableL, b_tableL, PySem.W.mg_of X G a_tableL⟩
  have O_rowsL : FnOk l.prog w K mg base CX0 5 f_rowsL _ ["_law_state", "_law_many_here", "_law_most"] spRows := ok_rows F_rowsL T D_take D_kept
  have D_rows : DefOk l.prog w K mg base 5 "_law_rows" f_rowsL _ ["_law_state", "_law_many_here", "_law_most"] spRows := ⟨O_rowsL, k_rowsL, b_rowsL, PySem.W.mg_of X G a_rowsL⟩
  have O_refused : FnOk l.prog w K mg base CX0 5 f_refused _ ["_law_made", "_law_x"] (spRefused K C_Work C_Edition C_Walk) := ok_refused F_refused TB M_Walk_callX fnWC
  have D_refused : DefOk l.prog w K mg base 5 "_law_refused" f_refused _ ["_law_made", "_law_x"] (spRefused K C_Work C_Edition C_Walk) := ⟨O_refused, k_refused, b_refused, PySem.W.mg_of X G a_refused⟩
  exact ok_law F_law T WT ET VT D_fresh D_take D_one D_many D_base D_rows D_edition D_handed D_spoilt D_table D_same D_refused K_Walk B_Walk M_Walk_table M_Walk_editions M_Walk_len M_Walk_call B_Walk_call CM M_Edition_eq
theorem walk {l : PySem.W.OpenLaw} {q : Program} {loose : List Str} {XP : (Str → Option Value) → Heap → Prop} {YP : World → Heap → Prop} {d : DefRec} {K : Params → PySem.W.Frag} (hn : l.most = some 63) (hdf : d.params.defaults = [])
    (hY : ∀ (w : World) (h : Heap), YP w h → (K w.params).In h)
    (F : ∀ (w : World) (mg : Str → Option Value) (fa : Addr) (h : Heap), (K w.params).In h → h.Ns mainGlobals mg → mg d.name = some (.ref fa) →
      ∃ fd : FuncData, (∀ (s : Shared) (u : Value), BindsTo s fd ⟨[u], []⟩ [("_law_script", u)]) ∧ ∀ base : Heap, (K w.params).In base → base.Ns mainGlobals mg → FnOk l.prog w (K w.params) mg base CX0 8 fa fd ["_law_script"] (spLaw (K w.params))) :
    PySem.W.WalkO q loose XP YP l.row.toRowW d [] (fun f vs => PySem.call f vs) :=
  L2.walk_of (n := 63) (k := 8) (x := "_law_script") (CX := fun _ => CX0) (sp := fun w => spLaw (K w.params)) hn (by decide) hdf ⟨rfl, by decide, by decide⟩ hY F (fun _ _ a ns hl _ hS => ⟨a, ns, rfl, hS, hl, fun _ => rfl⟩) fun _ _ _ _ _ z => z
end Lm

open PySem PySem.W PyProof.Rows
set_option maxRecDepth 100000 in
set_option maxHeartbeats 0 in
theorem PySem.Challenge.cw_leafmarks_k13_walks_called_holds : PySem.Challenge.rw_leafmarks_k13_walks_called.Holds := by
  w_on; o_law; k_head; (case hw => w_witness2)
  k_fill
  refine Lm.walk (l := PySem.Challenge.rw_leafmarks_k13_walks_called) rfl rfl (fun w h Y => PySem.W.kIn_of Y) ?F
  case F =>
    intro w mg fa h KX G hmg
    refine' Lm.all_mk KX G hmg ?a_Work ?pg_Work ?hd_Work ?po_Work ?sa_Work ?mk_Work ?kc_Work ?n_Work_name ?n_Work_words ?n_Work_ends ?ha_Work ?hn_Work ?htk_Work ?hm_Work ?a_Edition ?pg_Edition ?hd_Edition ?po_Edition ?sa_Edition ?mk_Edition ?kc_Edition ?n_Edition_work ?n_Edition_words ?n_Edition_cuts ?n_Edition_counts ?ha_Edition ?hm_Edition ?a_Walk ?pg_Walk ?hd_Walk ?po_Walk ?sa_Walk ?mk_Walk ?kc_Walk ?n_Walk_work ?n_Walk_steps ?a_fresh ?l_fresh ?c_fresh ?k_fresh ?a_fill ?l_fill ?c_fill ?k_fill ?a_take ?l_take ?c_take ?k_take ?a_one ?l_one ?c_one ?k_one ?a_same ?l_same ?c_same ?k_same ?a_allw ?l_allw ?c_allw ?k_allw ?a_somew ?l_somew ?c_somew ?k_somew ?a_many ?l_many ?c_many ?k_many ?a_handed ?l_handed ?c_handed ?k_handed ?a_spoilt ?l_spoilt ?c_spoilt ?k_spoilt ?a_kept ?l_kept ?c_kept ?k_kept ?a_isnum ?l_isnum ?c_isnum ?k_isnum ?a_upto ?l_upto ?c_upto ?k_upto ?a_isrow ?l_isrow ?c_isrow ?k_isrow ?a_isword ?l_isword ?c_isword ?k_isword ?a_wkinit ?i_wkinit ?l_wkinit ?c_wkinit ?k_wkinit ?a_wklen ?i_wklen ?l_wklen ?c_wklen ?k_wklen ?a_wkin ?i_wkin ?l_wkin ?c_wkin ?k_wkin ?a_wkend ?i_wkend ?l_wkend ?c_wkend ?k_wkend ?a_wkeq ?i_wkeq ?l_wkeq ?c_wkeq ?k_wkeq ?a_cuts ?l_cuts ?c_cuts ?k_cuts ?a_counts ?l_counts ?c_counts ?k_counts ?a_edinit ?i_edinit ?l_edinit ?c_edinit ?k_edinit ?a_edkern ?i_edkern ?l_edkern ?c_edkern ?k_edkern ?a_edeq ?i_edeq ?l_edeq ?c_edeq ?k_edeq ?aBC ?oBC ?rBC ?sBC ?bBC ?tBC ?kBC ?gaBC ?ggBC ?hdBC ?iBC ?tyBC ?noBC ?icBC ?seBC ?aWC0 ?aWC1 ?fnWC ?l_bcinit ?c_bcinit ?k_bcinit ?a_rcut ?l_rcut ?c_rcut ?k_rcut ?a_ised ?l_ised ?c_ised ?k_ised ?a_told ?l_told ?c_told ?k_told ?a_wainit ?i_wainit ?l_wainit ?c_wainit ?k_wainit ?a_watable ?i_watable ?l_watable ?c_watable ?k_watable ?a_waeds ?i_waeds ?l_waeds ?c_waeds ?k_waeds ?a_walen ?i_walen ?l_walen ?c_walen ?k_walen ?a_wacall ?i_wacall ?l_wacall ?c_wacall ?k_wacall ?a_base ?l_base ?c_base ?k_base ?a_edn ?l_edn ?c_edn ?k_edn ?a_kernsL ?l_kernsL ?c_kernsL ?k_kernsL ?a_tableL ?l_tableL ?c_tableL ?k_tableL ?a_rowsL ?l_rowsL ?c_rowsL ?k_rowsL ?a_refused ?l_refused ?c_refused ?k_refused ?a_law ?l_law ?c_law ?k_law ?g_LETTERS ?g_LONGEST_WORD ?z_len ?z_int ?z_range ?z_enumerate ?z_isinstance ?z_list ?z_tuple ?z_str ?z_bool ?z_all ?z_max ?z_zip
    (case a_Work => k_is)
    (case pg_Work => k_is)
    (case hd_Work => k_is)
    (case po_Work => k_is)
    (case sa_Work => k_is)
    (case mk_Work => k_is)
    (case kc_Work => k_is)
    (case n_Work_name => k_is)
    (case n_Work_words => k_is)
    (case n_Work_ends => k_is)
    (case ha_Work => k_is)
    (case hn_Work => k_is)
    (case htk_Work => k_is)
    (case hm_Work => k_is)
    (case a_Edition => k_is)
    (case pg_Edition => k_is)
    (case hd_Edition => k_is)
    (case po_Edition => k_is)
    (case sa_Edition => k_is)
    (case mk_Edition => k_is)
    (case kc_Edition => k_is)
    (case n_Edition_work => k_is)
    (case n_Edition_words => k_is)
    (case n_Edition_cuts => k_is)
    (case n_Edition_counts => k_is)
    (case ha_Edition => k_is)
    (case hm_Edition => k_is)
    (case a_Walk => k_is)
    (case pg_Walk => k_is)
    (case hd_Walk => k_is)
    (case po_Walk => k_is)
    (case sa_Walk => k_is)
    (case mk_Walk => k_is)
    (case kc_Walk => k_is)
    (case n_Walk_work => k_is)
    (case n_Walk_steps => k_is)
    (case a_fresh => k_is)
    (case l_fresh => k_is)
    (case c_fresh => k_is)
    (case k_fresh => k_is)
    (case a_fill => k_is)
    (case l_fill => k_is)
    (case c_fill => k_is)
    (case k_fill => k_is)
    (case a_take => k_is)
    (case l_take => k_is)
    (case c_take => k_is)
    (case k_take => k_is)
    (case a_one => k_is)
    (case l_one => k_is)
    (case c_one => k_is)
    (case k_one => k_is)
    (case a_same => k_is)
    (case l_same => k_is)
    (case c_same => k_is)
    (case k_same => k_is)
    (case a_allw => k_is)
    (case l_allw => k_is)
    (case c_allw => k_is)
    (case k_allw => k_is)
    (case a_somew => k_is)
    (case l_somew => k_is)
    (case c_somew => k_is)
    (case k_somew => k_is)
    (case a_many => k_is)
    (case l_many => k_is)
    (case c_many => k_is)
    (case k_many => k_is)
    (case a_handed => k_is)
    (case l_handed => k_is)
    (case c_handed => k_is)
    (case k_handed => k_is)
    (case a_spoilt => k_is)
    (case l_spoilt => k_is)
    (case c_spoilt => k_is)
    (case k_spoilt => k_is)
    (case a_kept => k_is)
    (case l_kept => k_is)
    (case c_kept => k_is)
    (case k_kept => k_is)
    (case a_isnum => k_is)
    (case l_isnum => k_is)
    (case c_isnum => k_is)
    (case k_isnum => k_is)
    (case a_upto => k_is)
    (case l_upto => k_is)
    (case c_upto => k_is)
    (case k_upto => k_is)
    (case a_isrow => k_is)
    (case l_isrow => k_is)
    (case c_isrow => k_is)
    (case k_isrow => k_is)
    (case a_isword => k_is)
    (case l_isword => k_is)
    (case c_isword => k_is)
    (case k_isword => k_is)
    (case a_wkinit => k_is)
    (case i_wkinit => k_is)
    (case l_wkinit => k_is)
    (case c_wkinit => k_is)
    (case k_wkinit => k_is)
    (case a_wklen => k_is)
    (case i_wklen => k_is)
    (case l_wklen => k_is)
    (case c_wklen => k_is)
    (case k_wklen => k_is)
    (case a_wkin => k_is)
    (case i_wkin => k_is)
    (case l_wkin => k_is)
    (case c_wkin => k_is)
    (case k_wkin => k_is)
    (case a_wkend => k_is)
    (case i_wkend => k_is)
    (case l_wkend => k_is)
    (case c_wkend => k_is)
    (case k_wkend => k_is)
    (case a_wkeq => k_is)
    (case i_wkeq => k_is)
    (case l_wkeq => k_is)
    (case c_wkeq => k_is)
    (case k_wkeq => k_is)
    (case a_cuts => k_is)
    (case l_cuts => k_is)
    (case c_cuts => k_is)
    (case k_cuts => k_is)
    (case a_counts => k_is)
    (case l_counts => k_is)
    (case c_counts => k_is)
    (case k_counts => k_is)
    (case a_edinit => k_is)
    (case i_edinit => k_is)
    (case l_edinit => k_is)
    (case c_edinit => k_is)
    (case k_edinit => k_is)
    (case a_edkern => k_is)
    (case i_edkern => k_is)
    (case l_edkern => k_is)
    (case c_edkern => k_is)
    (case k_edkern => k_is)
    (case a_edeq => k_is)
    (case i_edeq => k_is)
    (case l_edeq => k_is)
    (case c_edeq => k_is)
    (case k_edeq => k_is)
    (case aBC => k_is)
    (case oBC => k_is)
    (case rBC => rfl)
    (case sBC => k_is)
    (case bBC => k_is)
    (case tBC => k_is)
    (case kBC => k_is)
    (case gaBC => k_is)
    (case ggBC => k_is)
    (case hdBC => k_is)
    (case iBC => k_is)
    (case tyBC => k_is)
    (case noBC => k_is)
    (case icBC => k_is)
    (case seBC => k_is)
    (case aWC0 => k_is)
    (case aWC1 => k_is)
    (case fnWC => k_is)
    (case l_bcinit => k_is)
    (case c_bcinit => k_is)
    (case k_bcinit => k_is)
    (case a_rcut => k_is)
    (case l_rcut => k_is)
    (case c_rcut => k_is)
    (case k_rcut => k_is)
    (case a_ised => k_is)
    (case l_ised => k_is)
    (case c_ised => k_is)
    (case k_ised => k_is)
    (case a_told => k_is)
    (case l_told => k_is)
    (case c_told => k_is)
    (case k_told => k_is)
    (case a_wainit => k_is)
    (case i_wainit => k_is)
    (case l_wainit => k_is)
    (case c_wainit => k_is)
    (case k_wainit => k_is)
    (case a_watable => k_is)
    (case i_watable => k_is)
    (case l_watable => k_is)
    (case c_watable => k_is)
    (case k_watable => k_is)
    (case a_waeds => k_is)
    (case i_waeds => k_is)
    (case l_waeds => k_is)
    (case c_waeds => k_is)
    (case k_waeds => k_is)
    (case a_walen => k_is)
    (case i_walen => k_is)
    (case l_walen => k_is)
    (case c_walen => k_is)
    (case k_walen => k_is)
    (case a_wacall => k_is)
    (case i_wacall => k_is)
    (case l_wacall => k_is)
    (case c_wacall => k_is)
    (case k_wacall => k_is)
    (case a_base => k_is)
    (case l_base => k_is)
    (case c_base => k_is)
    (case k_base => k_is)
    (case a_edn => k_is)
    (case l_edn => k_is)
    (case c_edn => k_is)
    (case k_edn => k_is)
    (case a_kernsL => k_is)
    (case l_kernsL => k_is)
    (case c_kernsL => k_is)
    (case k_kernsL => k_is)
    (case a_tableL => k_is)
    (case l_tableL => k_is)
    (case c_tableL => k_is)
    (case k_tableL => k_is)
    (case a_rowsL => k_is)
    (case l_rowsL => k_is)
    (case c_rowsL => k_is)
    (case k_rowsL => k_is)
    (case a_refused => k_is)
    (case l_refused => k_is)
    (case c_refused => k_is)
    (case k_refused => k_is)
    (case a_law => k_is)
    (case l_law => k_is)
    (case c_law => k_is)
    (case k_law => k_is)
    (case g_LETTERS => k_is)
    (case g_LONGEST_WORD => k_is)
    (case z_len => k_is)
    (case z_int => k_is)
    (case z_range => k_is)
    (case z_enumerate => k_is)
    (case z_isinstance => k_is)
    (case z_list => k_is)
    (case z_tuple => k_is)
    (case z_str => k_is)
    (case z_bool => k_is)
    (case z_all => k_is)
    (case z_max => k_is)
    (case z_zip => k_is)
