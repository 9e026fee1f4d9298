import PyProof.Rows.All
import Wide.All
import OpenK.AllK
import Wide.FinOn
import PyProof.EqKinds
import HandS.ForMost
import HandS.IsInst
import HandS.OwnEq
import PyProof.InstNe
import PyProof.Draws
import KE.GoesEnum
import KE.GoesMore
import KE.KOpsOwn
import HandS.Walk
import HandS.Conv
import HandS.Evl
import HandS.Zip
import HandS.Property
import HandS.MakeKwOnly
import HandS.Style
import HandS.WordsExc
import HandS.ExcOwn
import HandS.TryOnly
import HandS.TupMul
import HandS.ExcInit
import HandS.ExcField
import HandS.DictComp
import KE.KCallOwn
import HandS.Lambda
import HandS.TryMany
import HandS.EndTab
import KE.KNestM
import HandS.Wide
import HandS.Zip
import HandS.TupAny
import KE.GoesEnum
import HandS.Property
import HandS.Nested
import HandS.NestedK
import HandS.ClsMeth
import PyProof.CollectIter
import KE.GoesEnumKw
import PyProof.StrOps2
import HandS.Text
import HandS.StrMore
import HandS.RaiseMore
import HandS.FStr
import HandS.Star
import HandS.Dict
import KE.IntTextLaws
import KE.IntTextText
import PyProof.Rows.StrCut
import HandS.MakeKwOnly
import HandS.Walk
import HandS.Style
import PySem.Challenge.RW_leafmarks_k24_rule_texts_refused
set_option Elab.async false
set_option linter.all false
set_option maxRecDepth 100000
set_option maxHeartbeats 16000000
namespace Lm
open PySem L2
section
variable {X : Cx} {CX : CXT} {k : Nat} {f C : Addr} {fd : FuncData} {ps : List Str} {sp : Sp} {E : XK} {pins : List (Addr × Obj)} {σ : St} {H : Hp} {s : Shared}
/-- the callee runs under another around of the same frames -/
theorem run_in {A : Around} {Q : VK} {us : List Value} {vs : List V} (F : FnOk X.prog X.w X.K X.mg X.base CX k f fd ps sp) (hr : Room k A) (e0 : Env0 X.prog X.w X.K X.mg X.base A X.stack s H) (hb : Binds X.K fd ps [])
    (hx : Passes CX X E) (I : Inv X pins σ H s) (r : Vals vs us) (h : sp vs H Q E) : wpAny (model X.prog X.w) A (call (.ref f) us) (EP X pins σ Q) X.xe s := by
  have hl : us.length = ps.length := by rw [← r.length]; exact F.len _ _ _ _ h
  have hb' : BindsTo s fd ⟨us, []⟩ (ps.zip us) := by
    have := hb s us I.kIn (by simpa using hl)
    simpa using this
  refine wpAny_call (codeAny_mono (F.run A X.stack s H ⟨us, []⟩ us vs Q E hr e0 hb' r h) fun r s' hq => ?_)
  cases r with
  | error e => exact hx pins σ H s e s' I hq
  | ok fl =>
    cases fl with
    | ret u => exact I.after hq
    | next => exact False.elim hq
    | brk => exact False.elim hq
    | cont => exact False.elim hq
/-- len(x), x an instance with its own __len__ -/
def rLenOwn (C : Addr) (sp : Sp) (E : XK) : List V → Hp → VK → Prop := fun xs H Q => ∃ a dx fs, xs = [.ref a] ∧ H a = some (.ins C dx fs) ∧
  sp [.ref a] H (fun z H' => ∃ n : Nat, z = .int n ∧ n < 2 ^ 62 ∧ Q (.int n) H') E
theorem call_lenOwn (F : FnOk X.prog X.w X.K X.mg X.base CX k f fd ps sp) (hs : PySem.W.findIn X.K (.ref C) "__len__" = some (some (.ref f))) (hf : PySem.W.isFn X.K (.ref f) = true) (hb : Binds X.K fd ps []) (hr : Room (k + 1) X.A) (hx : Passes CX X E) :
    CallR X (.builtin "len") (rLenOwn C sp E) := by
  intro pins s σ H xs us Q I r h
  obtain ⟨a, dx, fs, rfl, ha, q⟩ := h
  obtain ⟨u, rfl, ru⟩ := r.one
  cases (show u = Value.ref a from ru)
  obtain ⟨mA, J, _⟩ := ins_get I.hok ha
  obtain ⟨od, J, _⟩ := J.look
  obtain ⟨m, hF⟩ := I.fr
  refine PySem.W.len_K hF I.ok.mod.kin J hs hf (wpAny_mono (run_in (us := [.ref a]) (vs := [.ref a]) F hr.in1 I.env0.in1 hb hx I (.cons rfl .nil) q) (fun w s' z => ?_) fun _ _ x => x)
  obtain ⟨z', H', I', rz, n, ez, hn, qz⟩ := z
  subst ez
  obtain ⟨t, e⟩ := (show ∃ t, w = Value.int n t from rz)
  subst e
  refine ⟨⟨by omega, by omega⟩, .int n, H', I'.tok _, ⟨_, rfl⟩, qz⟩
/-- x in y, y an instance with its own __contains__ -/
def rInOwn (C : Addr) (sp : Sp) (E : XK) (neg : Bool) : R2 := fun x y H Q => ∃ a dx fs, y = .ref a ∧ H a = some (.ins C dx fs) ∧
  sp [y, x] H (fun z H' => ∃ b : Bool, z = .bl b ∧ Q (.bl (if neg then !b else b)) H') E
theorem op_inOwn (F : FnOk X.prog X.w X.K X.mg X.base CX k f fd ps sp) (hs : PySem.W.findIn X.K (.ref C) "__contains__" = some (some (.ref f))) (hf : PySem.W.isFn X.K (.ref f) = true) (hb : Binds X.K fd ps []) (hr : Room k X.A) (hx : Passes CX X E) :
    OpR X (compareOp .In) (rInOwn C sp E false) := by
  intro pins s σ H x y v u Q I rx ry h
  obtain ⟨a, dx, fs, rfl, ha, q⟩ := h
  cases (show u = Value.ref a from ry)
  obtain ⟨mA, J, _⟩ := ins_get I.hok ha
  obtain ⟨od, J, _⟩ := J.look
  obtain ⟨m, hF⟩ := I.fr
  refine PySem.W.in_K hF I.ok.mod.kin J hs hf (wpAny_mono (run_in (us := [.ref a, v]) (vs := [.ref a, x]) F hr I.env0 hb hx I (.cons rfl (.cons rx .nil)) q) (fun w s' z => ?_) fun _ _ x => x)
  obtain ⟨z', H', I', rz, b, ez, qz⟩ := z
  subst ez
  cases (show w = Value.bool b from rz)
  exact wpAny_truthy_bool ⟨.bl _, H', I', rfl, qz⟩
theorem op_notInOwn (F : FnOk X.prog X.w X.K X.mg X.base CX k f fd ps sp) (hs : PySem.W.findIn X.K (.ref C) "__contains__" = some (some (.ref f))) (hf : PySem.W.isFn X.K (.ref f) = true) (hb : Binds X.K fd ps []) (hr : Room k X.A) (hx : Passes CX X E) :
    OpR X (compareOp .NotIn) (rInOwn C sp E true) := by
  intro pins s σ H x y v u Q I rx ry h
  obtain ⟨a, dx, fs, rfl, ha, q⟩ := h
  cases (show u = Value.ref a from ry)
  obtain ⟨mA, J, _⟩ := ins_get I.hok ha
  obtain ⟨od, J, _⟩ := J.look
  obtain ⟨m, hF⟩ := I.fr
  refine PySem.W.notIn_K hF I.ok.mod.kin J hs hf (wpAny_mono (run_in (us := [.ref a, v]) (vs := [.ref a, x]) F hr I.env0 hb hx I (.cons rfl (.cons rx .nil)) q) (fun w s' z => ?_) fun _ _ x => x)
  obtain ⟨z', H', I', rz, b, ez, qz⟩ := z
  subst ez
  cases (show w = Value.bool b from rz)
  exact wpAny_truthy_bool ⟨.bl _, H', I', rfl, qz⟩
theorem cmpBack {P : Value → Shared → Prop} {z : V} {v : Value} {s' : Shared} (r : RelV z v) (h : P v s') : PySem.W.CmpBack P v s' := by
  cases z with
  | non => cases (show v = Value.none from r); exact h
  | bl b => cases (show v = Value.bool b from r); exact h
  | int i => obtain ⟨t, e⟩ := (show ∃ t, v = Value.int i t from r); cases e; exact h
  | str i => obtain ⟨t, e⟩ := (show ∃ t, v = Value.str i t from r); cases e; exact h
  | byt i => obtain ⟨t, e⟩ := (show ∃ t, v = Value.bytes i t from r); cases e; exact h
  | flt i => obtain ⟨t, e⟩ := (show ∃ t, v = Value.float i t from r); cases e; exact h
  | ref a => cases (show v = Value.ref a from r); exact h
  | ty n => cases (show v = Value.type n from r); exact h
/-- x op y, both instances of the class at C that has its own def for it -/
def rBinOwn (C : Addr) (sp : Sp) (E : XK) : R2 := fun x y H Q => ∃ a dx fs b dy gs, x = .ref a ∧ y = .ref b ∧ H a = some (.ins C dx fs) ∧ H b = some (.ins C dy gs) ∧ sp [x, y] H Q E
theorem op_binOwn {op : Operator} (F : FnOk X.prog X.w X.K X.mg X.base CX k f fd ps sp) (hc : PySem.W.selfFirst X.K C = true) (hs : PySem.W.findIn X.K (.ref C) (PySem.dunder op.info.2) = some (some (.ref f))) (hf : PySem.W.isFn X.K (.ref f) = true) (hb : Binds X.K fd ps []) (hr : Room k X.A) (hx : Passes CX X E) :
    OpR X (binaryOp op) (rBinOwn C sp E) := by
  intro pins s σ H x y v u Q I rx ry h
  obtain ⟨a, dx, fs, b, dy, gs, rfl, rfl, ha, hb', q⟩ := h
  cases (show v = Value.ref a from rx)
  cases (show u = Value.ref b from ry)
  obtain ⟨mA, J, _⟩ := ins_get I.hok ha
  obtain ⟨mB, J', _⟩ := ins_get I.hok hb'
  obtain ⟨od, J, _⟩ := J.look
  obtain ⟨od', J', _⟩ := J'.look
  obtain ⟨m, hF⟩ := I.fr
  refine PySem.W.binop_K hF I.ok.mod.kin J J'.type hc hs hf (wpAny_mono (run_in (us := [.ref a, .ref b]) (vs := [.ref a, .ref b]) F hr I.env0 hb hx I (.cons rfl (.cons rfl .nil)) q) (fun w s' z => ?_) fun _ _ x => x)
  obtain ⟨z', H', I', rz, qz⟩ := z
  exact cmpBack rz ⟨z', H', I', rz, qz⟩
theorem op_cmpOwn {op : CmpOp} (hop : ∀ a b, compareOp op a b = richCompare op a b) (F : FnOk X.prog X.w X.K X.mg X.base CX k f fd ps sp) (hs : PySem.W.findIn X.K (.ref C) (cmpInfo op).2.1 = some (some (.ref f))) (hf : PySem.W.isFn X.K (.ref f) = true) (hb : Binds X.K fd ps []) (hr : Room k X.A) (hx : Passes CX X E) :
    OpR X (compareOp op) (rBinOwn C sp E) := by
  intro pins s σ H x y v u Q I rx ry h
  obtain ⟨a, dx, fs, b, dy, gs, rfl, rfl, ha, hb', q⟩ := h
  cases (show v = Value.ref a from rx)
  cases (show u = Value.ref b from ry)
  obtain ⟨mA, J, _⟩ := ins_get I.hok ha
  obtain ⟨mB, J', _⟩ := ins_get I.hok hb'
  obtain ⟨od, J, _⟩ := J.look
  obtain ⟨od', J', _⟩ := J'.look
  obtain ⟨m, hF⟩ := I.fr
  rw [hop]
  refine PySem.W.cmp_K (op := op) (tb := .ref C) hr.units0 hF I.ok.mod.kin J J'.type (by simp [PySem.W.notFirst]) hs hf (wpAny_mono (run_in (us := [.ref a, .ref b]) (vs := [.ref a, .ref b]) F hr I.env0 hb hx I (.cons rfl (.cons rfl .nil)) q) (fun w s' z => ?_) fun _ _ x => x)
  obtain ⟨z', H', I', rz, qz⟩ := z
  exact cmpBack rz ⟨z', H', I', rz, qz⟩
end
end Lm

namespace Lm
open PySem PySem.W PySem.Calls PyProof.Rows
section
variable {prog : Program} {w : World} {A : Around} {E : Value → Shared → Prop} {s : Shared} {K : Frag} {x C L f : Addr} {h₀ : Heap} {m : Str → Option Value} {ox : Obj} {od : Option Obj} {b tb : Value}
/-- != of an instance whose class has an own == and no own != -/
theorem ne_own {Q : Value → Shared → Prop} (hu : A.units + 1 < cLine) (Fr' : Fr h₀ L s.heap m) (X₀ : K.In h₀) (I : InstAt s.heap x ox C od) (hb : Looks (model prog w) s.heap (typeOf b) tb) (hn : notFirst K C tb = true)
    (hne : findIn K (.ref C) "__ne__" = some (some (.builtin "object.__ne__"))) (hobj : subIn K (.ref C) (.type "object") = some true)
    (hs : findIn K (.ref C) "__eq__" = some (some (.ref f))) (hf : isFn K (.ref f) = true)
    (h : wpAny (model prog w) A.in1 (call (.ref f) [.ref x, b]) (fun v s' => ∃ k, v = .bool k ∧ Q (.bool (!k)) s') E s) : wpAny (model prog w) A (richCompare .NotEq (.ref x) b) Q E s := by
  have X := X₀.keeps Fr'.keep
  have fin : ∀ (Q' : Option Value → Shared → Prop), (∀ k s', Q (.bool (!k)) s' → Q' (some (.bool (!k))) s') →
      wpAny (model prog w) A (call (.builtin "object.__ne__") ([.ref x] ++ [b]) >>= fun v => pure (some v)) Q' E s := by
    intro Q' hQ
    refine wpAny_bind (wpAny_call (codeAny_call_builtin PySem.F.cmp_object.ne.plain PySem.F.cmpEntry_ne ?_))
    refine @check_slot (model prog w) _ _ _ "object.__ne__" "object" "__ne__" (.ref x) [b] [] _ PySem.F.cmpKind_ne PySem.F.cmpSplit_ne (I.type.andThen (looks_subIn X hobj)) (PySem.F.cmpArgs_ne _ _) ?_
    unfold Builtin.«object.__ne__»
    repeat (first
      | with_reducible refine wpAny_cRoomFor hu ?_
      | (refine wpAny_bind (m := callSpecialIfBound? (.ref x) (Str.ofString "__eq__") [b])
          (ifBound_K X I hs hf (wpAny_mono h (fun r s' hr => by
            obtain ⟨k, rfl, hq⟩ := hr
            repeat (first | exact ⟨_, rfl, wpAny_pure (hQ k s' hq)⟩ | exact wpAny_pure (hQ k s' hq) | exact hQ k s' hq | exact wpAny_truthy_bool (hQ k s' hq) | (refine wpAny_bind (m := truthy (.bool _)) (wpAny_truthy_bool ?_)) | wp_step)) fun _ _ e => e)))
      | wp_step)
  have one : wpAny (model prog w) A (tryCompare (.ref x) "__ne__" b) (fun r s' => ∃ v, r = some v ∧ Q v s') E s := by
    simp only [tryCompare]
    refine wpAny_bind ?_
    simp only [callSpecialIfBound?, bindSpecialIfBound?]
    refine wpAny_holding (wpAny_bind (wpAny_bind (wpAny_bind (I.type.here ((looks_findIn X hne).here ?_)))))
    refine wpAny_bind (wpAny_askSetting (wpAny_ite ?_))
    split
    · refine wpAny_bind ?_
      rw [PySem.F.cmp_object.ne.bind]
      refine wpAny_pure (wpAny_pure ?_)
      show wpAny _ _ (call _ _ >>= fun v => pure (some v)) _ _ _
      exact fin _ fun k s' q => wpAny_pure ⟨_, rfl, q⟩
    · refine wpAny_tryCatch (wpAny_bind ?_)
      rw [PySem.F.cmp_object.ne.bind]
      refine wpAny_pure (wpAny_pure ?_)
      show wpAny _ _ (call _ _ >>= fun v => pure (some v)) _ _ _
      exact fin _ fun k s' q => wpAny_pure ⟨_, rfl, q⟩
  unfold richCompare
  simp only [oneThing_ref]
  refine wpAny_holding (wpAny_bind (wpAny_cRoomFor (Nat.lt_of_succ_lt hu) ?_))
  refine wpAny_bind (I.type.here (wpAny_bind (hb.here ?_)))
  split
  · rename_i q
    have e : subIn K tb (.ref C) = some false := by
      rcases Bool.or_eq_true_iff.mp hn with e | e
      · rw [beq_iff_eq.mp e] at q; simp at q
      · exact beq_iff_eq.mp e
    refine wpAny_bind ((looks_subIn X e).here ?_)
    simp only [Bool.false_eq_true, if_false]
    refine wpAny_bind (wpAny_mono one (fun r s' z => ?_) fun _ _ e => e)
    obtain ⟨v, rfl, hq⟩ := z
    exact wpAny_pure hq
  · refine wpAny_bind (wpAny_pure ?_)
    simp only [Bool.false_eq_true, if_false]
    refine wpAny_bind (wpAny_mono one (fun r s' z => ?_) fun _ _ e => e)
    obtain ⟨v, rfl, hq⟩ := z
    exact wpAny_pure hq
end
end Lm

namespace Lm
open PySem PySem.W PySem.Calls PyProof.Rows Builtin
theorem meets_enum1 {v : Value} {o : Obj} {H : Heap → Prop} (B : Begins v o H) :
    Meets (Builtin.«enumerate.__new__» ⟨[.type "enumerate", v], []⟩) (fun _ R s => H s.heap ∧
      R (.ok (.ret (.ref (s.heap.push o).objs.size))) { s with heap := (s.heap.push o).push { cls := .type "enumerate", data := .fields #[.none, .bool false, .ref s.heap.objs.size, rawInt 0, .none, .none] } }) :=
  .of_wp fun prog w A R s ⟨h1, h⟩ => by
    obtain ⟨hp, g, d, tk, os⟩ := s
    have hsub := sub_enumerate
    have q1 : ∀ {A' : Around} {E : Value → Shared → Prop} {Q : Value → Shared → Prop}, Q (.ref hp.objs.size) ⟨hp.push o, g, d, tk, os⟩ → wpAny (model prog w) A' (pyIter v) Q E ⟨hp, g, d, tk, os⟩ :=
      fun q => B.iter prog w _ _ ⟨hp, g, d, tk, os⟩ _ h1 q
    wp_walk using q1
    refine wpAny_stack_any fun st => wpAny_pure ?_
    split
    · rename_i c _ _ _ _ _
      cases (c == Value.type "enumerate")
      · wp_walk using q1
        exact ⟨_, rfl, h⟩
      · wp_walk using q1
        exact ⟨_, rfl, h⟩
    · wp_walk using q1
      exact ⟨_, rfl, h⟩
section
variable {prog : Program} {w : World} {A : Around} {E : Value → Shared → Prop} {s : Shared}
theorem call_enum1 {v : Value} {o : Obj} {H : Heap → Prop} {Q : Value → Shared → Prop} (B : Begins v o H) (h1 : H s.heap)
    (h : ∀ h', IsEnum h' (s.heap.objs.size + 1) s.heap.objs.size 0 .none → h'.get? s.heap.objs.size = some o → h'.objs.size = s.heap.objs.size + 2 →
      (∀ b o, s.heap.get? b = some o → h'.get? b = some o) → Q (.ref (s.heap.objs.size + 1)) { s with heap := h' }) :
    wpAny (model prog w) A (call (.type "enumerate") [v]) Q E s := by
  refine callType_new F.called_enumerate (by decide) (F.typeCall_enumerate_1 _) (F.newCall_enumerate_1 _) (fun obj => F.args_object_init_2 obj _) F.entry_enumerate_new
    (meets_enum1 B) ⟨h1, ?_⟩
  have hz : (s.heap.push o).objs.size = s.heap.objs.size + 1 := Heap.size_push ..
  show _ ∧ _
  rw [hz]
  have he : IsEnum ((s.heap.push o).push { cls := .type "enumerate", data := .fields #[.none, .bool false, .ref s.heap.objs.size, rawInt 0, .none, .none] }) (s.heap.objs.size + 1) s.heap.objs.size 0 .none := by
    have := Heap.get?_push_size (s.heap.push o) (o := { cls := .type "enumerate", data := .fields #[.none, .bool false, .ref s.heap.objs.size, rawInt 0, .none, .none] }) rfl
    rw [hz] at this; exact this
  refine ⟨⟨_, he, rfl⟩, h _ he (Heap.get?_push_of_some _ (Heap.get?_push_size _ B.free)) (by rw [Heap.size_push, hz]) fun b o x => Heap.get?_push_of_some _ (Heap.get?_push_of_some _ x)⟩
end
end Lm
namespace Lm
open PySem L2 PyProof.Rows PySem.Spec
open PySem.F in
theorem pyNext_enumT_end {prog : Program} {w : World} {A : Around} {E : Value → Shared → Prop} {s : Shared} {e it l : Addr} {i : Nat} {items : Array Value} {old : Value} {Q : Option Value → Shared → Prop} (hh : A.handled = none)
    (he : IsEnum s.heap e it i old) (hit : s.heap.IsTupleIter it l i) (hl : s.heap.IsTuple l items) (hx : items[i]? = none)
    (hQ : ∀ h', Heap.ExtBut it s.heap h' → Q none { s with heap := h' }) : wpAny (model prog w) A (pyNext (.ref e)) Q E s := by
  have hT : s.TypeIs (.ref e) "enumerate" := ⟨_, he, rfl⟩
  unfold pyNext
  refine wpAny_bind (wpAny_attempt (wpAny_callSpecial?_slot (name := Str.ofString "__next__") hT F.slot_enumerate_next
    (wpAny_call_entry F.slot_enumerate_next hT F.entry_enumerate_next ?_ (F.args_enumerate_next_1 _))))
  show wpAny _ _ (field (.ref e) 2 >>= _) _ _ _
  refine wpAny_bind (wpAny_field he rfl (x := .ref it) rfl ?_)
  refine wpAny_bind (wpAny_nextOf_tuple_end (A := A.in1) hh hit hl hx fun h' x he' hx' => ?_)
  obtain ⟨o, ho, hc⟩ := hx'
  refine wpAny_bind (wpAny_isInstance (T := "StopIteration") (b := true) ⟨o, ho, hc⟩ isSubtype_stop ?_)
  exact wpAny_pure (hQ _ he')
/-- the tuple at a as it stands, each item in a new pair -/
def IteT (K : PySem.W.Frag) (a : Addr) : It :=
  ⟨fun i H => ∃ (xs : List V) (x : V), SqT K H a xs ∧ xs[i]? = some x, fun i H v H' => ∃ T x, v = .ref T ∧ H T = none ∧ H' = upd H T (.tup [.int (i : Nat), x]) ∧ ∀ xs, SqT K H a xs → xs[i]? = some x, fun i H => ∃ xs : List V, SqT K H a xs ∧ xs.length ≤ i⟩
theorem turn_enumT {P : Program} {w : World} {K : PySem.W.Frag} {elts : List Expr} {kk : Nat} {tpos : Pos} (a e it : Addr) (hai : a ≠ it) (hea : e ≠ a) :
    Turn P w K (.Tuple elts kk tpos) (IteT K a) [e, it] e (fun i h => (∃ old, IsEnum h e it ((i : Nat) : Int) old) ∧ h.IsTupleIter it a i ∧ e ≠ it) where
  mem := by simp
  obj := fun i h st b hb => by
    obtain ⟨⟨old, he⟩, ⟨o, ho, hc, hd⟩, _⟩ := st
    have e' : b = e ∨ b = it := by simpa using hb
    rcases e' with z | z
    · rw [z]; exact ⟨_, he, fun v q => nomatch q⟩
    · rw [z]; exact ⟨o, ho, fun v q => by rw [hd] at q; cases q⟩
  keep := fun i h h' st k => let ⟨⟨old, he⟩, hi, hne⟩ := st; ⟨⟨old, k e (by simp) _ he⟩, hi.at fun o q => k it (by simp) o q, hne⟩
  item := by
    intro X hP hw hK hc i pins s σ H E I hf st hg
    subst hP hw hK
    obtain ⟨⟨old, he⟩, hit, hne⟩ := st
    obtain ⟨xs, x, hq, hx⟩ := hg
    obtain ⟨its, rv, p, hz⟩ := I.tuple hq
    obtain ⟨u, hu, ru⟩ := rv.get hx
    have hel : e < s.heap.objs.size := Heap.lt_size he
    have hil : it < s.heap.objs.size := by obtain ⟨_, q, _⟩ := hit; exact Heap.lt_size q
    have hi : i < its.toArray.size := by
      have := (List.getElem?_eq_some_iff.mp hu).1
      simpa using this
    refine wpAny_pyNext_enum_itemD (Draws.tuple (A := X.A.in1) (I.ok.hd hc) it a hai its.toArray) he ⟨hit, p⟩ hi hne (by simp [hne, hea]) fun x' h' tk hx' ho hst' hT hsz hk => ?_
    have hit' := hst'.1
    have ex' : x' = u := by
      have : its[i]? = some x' := by simpa using hx'
      rw [hu] at this; exact (Option.some.inj this).symm
    subst ex'
    refine ⟨_, rfl, wpAny_letOwnedTupleGo_enum (s := { s with heap := h', toks := tk + 1 }) ho fun h'' he' sb => ?_⟩
    have hT2 : h''.get? s.heap.objs.size = some { cls := .type "tuple", data := .seq #[.int i tk, x'] } := (sb.2 _ (Nat.ne_of_gt hel)).trans hT
    have new : ObjOk X.prog X.w (upd H s.heap.objs.size (.tup [.int (i : Nat), x])) h'' s.heap.objs.size (.tup [.int (i : Nat), x]) :=
      ⟨by show 2 ≤ sizeLine; decide, [.int i tk, x'], .cons ⟨_, rfl⟩ (.cons ru .nil), ⟨_, hT2, rfl, _, rfl⟩⟩
    have I1 : Inv X pins σ (upd H s.heap.objs.size (.tup [.int (i : Nat), x])) { s with heap := h'', toks := tk + 1 } :=
      I.turnedNew (ch := [e, it]) (fun b ob hb q => (sb.2 b (fun z => hb (by simp [z]))).trans (hk b ob (fun z => hb (by simp [z])) (fun z => hb (by simp [z])) q)) hf (Nat.le_refl _) new
    refine ⟨.ref s.heap.objs.size, _, I1, rfl, ⟨_, x, rfl, I.hok.fresh (Nat.le_refl _), rfl, fun ys hy => by rw [I.tuple_inj hy hq]; exact hx⟩, ⟨⟨x', ?_⟩, hit'.at fun o q => (sb.2 it (Ne.symm hne)).trans q, hne⟩, fun b hb => ?_⟩
    · have e1 : ((i + 1 : Nat) : Int) = (i : Int) + 1 := by omega
      rw [e1]; exact he'
    · have hb' : b < s.heap.objs.size := by
        have e' : b = e ∨ b = it := by simpa using hb
        rcases e' with z | z
        · rw [z]; exact hel
        · rw [z]; exact hil
      rw [upd_ne (Nat.ne_of_lt hb')]
      exact (hf b hb).1
  done := by
    intro X hP hw hK hc i pins s σ H E I hf st hg
    subst hP hw hK
    obtain ⟨⟨old, he⟩, hit, hne⟩ := st
    obtain ⟨xs, hq, hx⟩ := hg
    obtain ⟨its, rv, p, hz⟩ := I.tuple hq
    obtain ⟨f0, f1, f2, f3, f4, f5⟩ := hf it (by simp)
    have hl := rv.length
    exact pyNext_enumT_end (I.ok.hd hc) he hit p (by simp; omega) fun h' eb => ⟨rfl, I.turned (t' := s.toks) (fun b o hb q => eb b o hb q) f0 f1 f3 f4 f5⟩
  self := fun A i s Q E st h => let ⟨⟨_, he⟩, _⟩ := st; wpAny_pyIter_enum he h
def iEnumA (K : PySem.W.Frag) (ta : TA) : TI := fun σ H R => ta σ H fun vs H1 => ∃ a xs, vs = [.ref a] ∧ ((SqL K H1 a xs ∧ R (Ite K a) H1) ∨ (SqT K H1 a xs ∧ R (IteT K a) H1))
theorem pi_enumA {X : Cx} {e : Expr} {ta : TA} {p pos tpos : Pos} {elts : List Expr} {kk : Nat} (hg : Gl X "enumerate") (hm : X.mg "enumerate" = none) (ha : PA X [e] ta) (hs : starEach [e] X.env = [(false, eval e X.env)] := by rfl) :
    PI X (.Tuple elts kk tpos) (.Call (.Name "enumerate" p) [e] [] pos) (iEnumA X.K ta) := by
  refine ⟨fun pins s σ H R I h => ?_⟩
  refine Call_ (ld_blt I hg hm boot_enumerate (PyProof.Rows.callWith_type1 (thn (ha.run pos pins s σ H _ I h) fun us s1 ⟨vs, H1, I1, r1, q1⟩ => ?_) hs rfl))
  obtain ⟨a, xs, ex, q1⟩ := q1
  subst ex
  cases r1 with
  | cons r rr =>
    cases rr
    cases r
    have fresh2 : ∀ b, b ∈ [s1.heap.objs.size + 1, s1.heap.objs.size] → FpOk X pins H1 b := fun b hb => by
      have e' : b = s1.heap.objs.size + 1 ∨ b = s1.heap.objs.size := by simpa using hb
      have hle : s1.heap.objs.size ≤ b := by
        rcases e' with z | z
        · rw [z]; exact Nat.le_add_right _ _
        · rw [z]; exact Nat.le_refl _
      exact I1.fpOk hle (I1.hok.fresh hle)
    rcases q1 with ⟨hq, q⟩ | ⟨hq, q⟩
    · obtain ⟨its, rv, p', hz⟩ := I1.list hq
      refine call_enumerate_list p'.isList fun h' he hit hsz hk => wpAny_pyIter_enum he ?_
      have I2 : Inv X pins σ H1 { s1 with heap := h' } := I1.kept (t' := s1.toks) hk
      exact ⟨s1.heap.objs.size + 1, [s1.heap.objs.size + 1, s1.heap.objs.size], _, _, H1, rfl, I2, turn_enum a (s1.heap.objs.size + 1) s1.heap.objs.size, ⟨⟨.none, he⟩, hit, Nat.succ_ne_self _⟩, fresh2, q⟩
    · obtain ⟨its, rv, p', hz⟩ := I1.tuple hq
      obtain ⟨o1, ho1, _⟩ := id p'
      have hlt := Heap.lt_size ho1
      refine call_enum1 (begins_tuple a its.toArray) (show s1.heap.IsTuple a its.toArray from p') fun h' he hit hsz hk => wpAny_pyIter_enum he ?_
      have I2 : Inv X pins σ H1 { s1 with heap := h' } := I1.kept (t' := s1.toks) hk
      exact ⟨s1.heap.objs.size + 1, [s1.heap.objs.size + 1, s1.heap.objs.size], _, _, H1, rfl, I2, turn_enumT a (s1.heap.objs.size + 1) s1.heap.objs.size (Nat.ne_of_lt hlt) (Nat.ne_of_gt (Nat.lt_succ_of_lt hlt)), ⟨⟨.none, he⟩, ⟨_, hit, rfl, rfl⟩, Nat.succ_ne_self _⟩, fresh2, q⟩
theorem walk_enumT {K : PySem.W.Frag} {a : Addr} {xs : List V} : Walk (IteT K a) xs.length (fun H => SqT K H a xs) (YPair (fun i => some (.int (i : Nat))) (fun i => xs[i]?)) :=
  ⟨fun i _ hi q => ⟨xs, xs[i], q, by simp [hi]⟩, fun _ q => ⟨xs, q, Nat.le_refl _⟩, fun i H v H' _ q ⟨T, x, e1, e2, e3, e4⟩ => ⟨T, _, x, e1, e2, e3, rfl, e4 xs q⟩⟩
end Lm

namespace Lm
open PySem L2
/-! ### defs, methods, classes as they stand behind the top, with their promises -/
structure DefOk (P : Program) (w : World) (K : PySem.W.Frag) (mg : Str → Option Value) (base : Heap) (k : Nat) (x : Str) (f : Addr) (fd : FuncData) (ps : List Str) (sp : Sp) : Prop where
  ok : FnOk P w K mg base CX0 k f fd ps sp
  kp : PySem.W.keepIn K (.ref f) = true
  bd : Binds K fd ps []
  mg : mg x = some (.ref f)
structure MetOk (P : Program) (w : World) (K : PySem.W.Frag) (mg : Str → Option Value) (base : Heap) (k : Nat) (C : Addr) (m : Str) (f : Addr) (fd : FuncData) (ps : List Str) (sp : Sp) : Prop where
  ok : FnOk P w K mg base CX0 k f fd ps sp
  bd : Binds K fd ps []
  mt : Meth K C m f
  cl : Cls K C
structure ClsOk (P : Program) (w : World) (K : PySem.W.Frag) (mg : Str → Option Value) (base : Heap) (k : Nat) (x : Str) (C f : Addr) (fd : FuncData) (ps : List Str) (sp : Sp) : Prop where
  ok : FnOk P w K mg base CX0 k f fd ps sp
  bd : Binds K fd ps []
  mkr : Mk K C f
  cl : Cls K C
  mg : mg x = some (.ref C)
section
variable {X : Cx} {k : Nat} {f C : Addr} {fd : FuncData} {ps : List Str} {sp : Sp} {x m : Str} {p pos apos : Pos} {e o : Expr} {es : List Expr} {ta : TE} {t : TA}
theorem pe_d (D : DefOk X.prog X.w X.K X.mg X.base k x f fd ps sp) (hr : Room k X.A) (ha : PA X (e :: es) t) (hg : Gl X x := by rfl) (hdb : (x == ("__debug__" : Str)) = false := by decide)
    (he : starEach (e :: es) X.env = (false, eval e X.env) :: starEach es X.env := by rfl) (hpl : (backTo pos (starEach es X.env)).any (·.1) = false := by rfl) :
    PE X (.Call (.Name x p) (e :: es) [] pos) (tCall sp [] E0 t) := pe_call D.ok hr hg D.mg D.kp D.bd .nil pass0 ha hdb he hpl
theorem pe_d0 (D : DefOk X.prog X.w X.K X.mg X.base k x f fd ps sp) (hr : Room k X.A) (hg : Gl X x := by rfl) (hdb : (x == ("__debug__" : Str)) = false := by decide) :
    PE X (.Call (.Name x p) [] [] pos) (tCall sp [] E0 tNil) := pe_call0 D.ok hr hg D.mg D.kp D.bd .nil pass0 hdb
theorem pe_mk (D : ClsOk X.prog X.w X.K X.mg X.base k x C f fd ps sp) (hr : Room (k + 1) X.A) (ha : PA X (e :: es) t) (hg : Gl X x := by rfl) (hdb : (x == ("__debug__" : Str)) = false := by decide)
    (he : starEach (e :: es) X.env = (false, eval e X.env) :: starEach es X.env := by rfl) (hpl : (backTo pos (starEach es X.env)).any (·.1) = false := by rfl) :
    PE X (.Call (.Name x p) (e :: es) [] pos) (tMake C sp [] E0 t) := pe_make D.mkr D.ok hr hg D.mg D.bd .nil pass0 ha hdb he hpl
theorem pe_m {pl : Sem Bool} (D : MetOk X.prog X.w X.K X.mg X.base k C m f fd ps sp) (hr : Room k X.A) (he : PE X o ta) (ha : PA X (e :: es) t)
    (hst : starEach (e :: es) X.env = (false, eval e X.env) :: starEach es X.env := by rfl) (hpl : (backTo pos (starEach es X.env)).any (·.1) = false := by rfl)
    (ht : eval (.Call (.Attribute o m apos) (e :: es) [] pos) X.env = (do
      let ov ← eval o X.env
      standAt apos.atName
      let (f, first) ← holding [ov] (getMethod ov m pl)
      callWith pos f first (backTo pos (starEach (e :: es) X.env)) (backToKw pos (keywordEach [] X.env))) := by rfl) :
    PE X (.Call (.Attribute o m apos) (e :: es) [] pos) (tMeth C m sp [] E0 ta t) := pe_meth (pl := pl) he D.cl D.mt D.ok hr D.bd .nil pass0 ha hst hpl ht
theorem pe_m0 {pl : Sem Bool} (D : MetOk X.prog X.w X.K X.mg X.base k C m f fd ps sp) (hr : Room k X.A) (he : PE X o ta)
    (ht : eval (.Call (.Attribute o m apos) [] [] pos) X.env = (do
      let ov ← eval o X.env
      standAt apos.atName
      let (f, first) ← holding [ov] (getMethod ov m pl)
      callWith pos f first (backTo pos (starEach [] X.env)) (backToKw pos (keywordEach [] X.env))) := by rfl) :
    PE X (.Call (.Attribute o m apos) [] [] pos) (tMeth C m sp [] E0 ta tNil) := pe_meth0 (pl := pl) he D.cl D.mt D.ok hr D.bd .nil pass0 ht
theorem MetOk.len (D : MetOk X.prog X.w X.K X.mg X.base k C "__len__" f fd ps sp) (hr : Room (k + 1) X.A) : CallR X (.builtin "len") (rLenOwn C sp E0) := call_lenOwn D.ok D.mt.at_ D.mt.fn D.bd hr pass0
theorem MetOk.isin (D : MetOk X.prog X.w X.K X.mg X.base k C "__contains__" f fd ps sp) (hr : Room k X.A) : OpR X (compareOp .In) (rInOwn C sp E0 false) := op_inOwn D.ok D.mt.at_ D.mt.fn D.bd hr pass0
theorem MetOk.notin (D : MetOk X.prog X.w X.K X.mg X.base k C "__contains__" f fd ps sp) (hr : Room k X.A) : OpR X (compareOp .NotIn) (rInOwn C sp E0 true) := op_notInOwn D.ok D.mt.at_ D.mt.fn D.bd hr pass0
theorem MetOk.bin {op : Operator} (D : MetOk X.prog X.w X.K X.mg X.base k C (PySem.dunder op.info.2) f fd ps sp) (hc : PySem.W.selfFirst X.K C = true) (hr : Room k X.A) : OpR X (binaryOp op) (rBinOwn C sp E0) := op_binOwn D.ok hc D.mt.at_ D.mt.fn D.bd hr pass0
theorem MetOk.le (D : MetOk X.prog X.w X.K X.mg X.base k C "__le__" f fd ps sp) (hr : Room k X.A) : OpR X (compareOp .LtE) (rBinOwn C sp E0) := op_cmpOwn (fun _ _ => rfl) D.ok D.mt.at_ D.mt.fn D.bd hr pass0
theorem MetOk.lt (D : MetOk X.prog X.w X.K X.mg X.base k C "__lt__" f fd ps sp) (hr : Room k X.A) : OpR X (compareOp .Lt) (rBinOwn C sp E0) := op_cmpOwn (fun _ _ => rfl) D.ok D.mt.at_ D.mt.fn D.bd hr pass0
theorem MetOk.eq (D : MetOk X.prog X.w X.K X.mg X.base k C "__eq__" f fd ps sp) (hr : Room k X.A) : OpR X (compareOp .Eq) (rBinOwn C sp E0) := op_cmpOwn (fun _ _ => rfl) D.ok D.mt.at_ D.mt.fn D.bd hr pass0
/-- x != y of two instances of a class with an own == alone -/
def rNeOwn (C : Addr) (sp : Sp) (E : XK) : R2 := fun x y H Q => ∃ a dx fs b dy gs, x = .ref a ∧ y = .ref b ∧ H a = some (.ins C dx fs) ∧ H b = some (.ins C dy gs) ∧ sp [x, y] H (fun z H' => ∃ k : Bool, z = .bl k ∧ Q (.bl (!k)) H') E
theorem MetOk.ne (D : MetOk X.prog X.w X.K X.mg X.base k C "__eq__" f fd ps sp) (hn : PySem.W.findIn X.K (.ref C) "__ne__" = some (some (.builtin "object.__ne__"))) (ho : PySem.W.subIn X.K (.ref C) (.type "object") = some true) (hr : Room (k + 1) X.A) :
    OpR X (compareOp .NotEq) (rNeOwn C sp E0) := by
  intro pins s σ H x y v u Q I rx ry h
  obtain ⟨a, dx, fs, b, dy, gs, rfl, rfl, ha, hb', q⟩ := h
  cases (show v = Value.ref a from rx)
  cases (show u = Value.ref b from ry)
  obtain ⟨mA, J, _⟩ := ins_get I.hok ha
  obtain ⟨mB, J', _⟩ := ins_get I.hok hb'
  obtain ⟨od, J, _⟩ := J.look
  obtain ⟨od', J', _⟩ := J'.look
  obtain ⟨m, hF⟩ := I.fr
  show wpAny _ _ (richCompare .NotEq _ _) _ _ _
  refine ne_own (tb := .ref C) (by have := hr.un; omega) hF I.ok.mod.kin J J'.type (by simp [PySem.W.notFirst]) hn ho D.mt.at_ D.mt.fn
    (wpAny_mono (run_in (us := [.ref a, .ref b]) (vs := [.ref a, .ref b]) D.ok hr.in1 I.env0.in1 D.bd pass0 I (.cons rfl (.cons rfl .nil)) q) (fun w s' z => ?_) fun _ _ x => x)
  obtain ⟨z', H', I', rz, b, ez, qz⟩ := z
  subst ez
  cases (show w = Value.bool b from rz)
  exact ⟨b, rfl, .bl _, H', I', rfl, qz⟩
end
/-! ### heaps -/
/-- all that was tracked is as it was, but perhaps what stands at st -/
def Kp (st : Addr) (H H' : Hp) : Prop := ∀ b o, b ≠ st → H b = some o → H' b = some o
theorem Kp.refl (st : Addr) (H : Hp) : Kp st H H := fun _ _ _ h => h
theorem Kp.trans {st : Addr} {H H1 H2 : Hp} (a : Kp st H H1) (b : Kp st H1 H2) : Kp st H H2 := fun c o n h => b c o n (a c o n h)
theorem Kp.of {st : Addr} {H H' : Hp} (s : Same H H') : Kp st H H' := fun b o _ h => s b o h
theorem Kp.upd (st : Addr) (H : Hp) (o : HO) : Kp st H (upd H st o) := fun b u n h => by rw [upd_ne n]; exact h
theorem Kp.free {st : Addr} {H H' : Hp} (e : Kp st H H') {l : Addr} (hl : l ≠ st) (h : H' l = none) : H l = none := by
  cases q : H l with
  | none => rfl
  | some o => rw [e l o hl q] at h; cases h
theorem Same.upd' {H : Hp} {p : Addr} {o : HO} (h : H p = none) : Same H (upd H p o) := fun a u e => by rw [upd_ne (ne_of_none e h)]; exact e
/-- an object that H does not know may change -/
theorem Same.mut {H H' : Hp} {p : Addr} {o : HO} (e : Same H H') (h : H p = none) : Same H (upd H' p o) := fun a u ha => by rw [upd_ne (ne_of_none ha h)]; exact e a u ha
theorem Kp.mut {st : Addr} {H H' : Hp} {p : Addr} {o : HO} (e : Kp st H H') (h : H p = none) : Kp st H (L2.upd H' p o) := fun a u hn ha => by rw [upd_ne (ne_of_none ha h)]; exact e a u hn ha
theorem Kp.seqL {st : Addr} {K : PySem.W.Frag} {H H' : Hp} {a : Addr} {xs : List V} (e : Kp st H H') (hn : a ≠ st) (h : SqL K H a xs) : SqL K H' a xs := by
  rcases h with (h | ⟨o, h⟩) | h
  · exact .inl (.inl (e _ _ hn h))
  · exact .inl (.inr ⟨o, e _ _ hn h⟩)
  · exact .inr h
theorem Kp.seqT {st : Addr} {K : PySem.W.Frag} {H H' : Hp} {a : Addr} {xs : List V} (e : Kp st H H') (hn : a ≠ st) (h : SqT K H a xs) : SqT K H' a xs := by
  rcases h with (h | ⟨o, h⟩) | h
  · exact .inl (.inl (e _ _ hn h))
  · exact .inl (.inr ⟨o, e _ _ hn h⟩)
  · exact .inr h
theorem Same.seqT {K : PySem.W.Frag} {H H' : Hp} {a : Addr} {xs : List V} (e : Same H H') (h : SqT K H a xs) : SqT K H' a xs := by
  rcases h with (h | ⟨o, h⟩) | h
  · exact .inl (.inl (e _ _ h))
  · exact .inl (.inr ⟨o, e _ _ h⟩)
  · exact .inr h
/-- the law's state: the cells, how many were taken, what is left, whether it is far -/
structure StAt (H : Hp) (st c : Addr) : Prop where
  ob : ∃ (n l : Int) (b : Bool), H st = some (.lst [.ref c, .int n, .int l, .bl b])
  ce : ∃ ns : List Int, H c = some (.lst (ns.map V.int)) ∧ ns.length ≤ 63
  ne : c ≠ st
theorem StAt.same {H H' : Hp} {st c : Addr} (S : StAt H st c) (e : Same H H') : StAt H' st c := by
  obtain ⟨⟨n, l, b, h⟩, ⟨ns, h2, h3⟩, ne⟩ := S
  exact ⟨⟨n, l, b, e _ _ h⟩, ⟨ns, e _ _ h2, h3⟩, ne⟩
/-- another object changes -/
theorem StAt.mut {H : Hp} {st c p : Addr} {o : HO} (S : StAt H st c) (h1 : p ≠ st) (h2 : p ≠ c) : StAt (upd H p o) st c := by
  obtain ⟨⟨n, l, b, h⟩, ⟨ns, h4, h3⟩, ne⟩ := S
  exact ⟨⟨n, l, b, by rw [upd_ne (Ne.symm h1)]; exact h⟩, ⟨ns, by rw [upd_ne (Ne.symm h2)]; exact h4, h3⟩, ne⟩
theorem StAt.of_new {H : Hp} {st c p : Addr} (S : StAt H st c) (h : H p = none) : p ≠ st ∧ p ≠ c := by
  obtain ⟨⟨n, l, b, h1⟩, ⟨ns, h4, h3⟩, ne⟩ := S
  exact ⟨(ne_of_none h1 h).symm, (ne_of_none h4 h).symm⟩
end Lm

namespace Lm
open PySem PySem.W PySem.Calls PyProof.Rows
section
variable {prog : Program} {w : World} {A : Around} {E : Value → Shared → Prop} {s : Shared} {K : Frag} {x C L f f' dx : Addr} {h₀ : Heap} {m : Str → Option Value} {od : Option Obj}
theorem add_declines {C : Addr} {dx : Addr} (n : Int) (t : Tok) (x : Addr) : GivesAt (fun s => s.heap.get? x = some (instObj C dx)) (Builtin.«int.__add__» ⟨[.int n t, .ref x], []⟩) (.val .notImplemented) := by
  intro prog w A R s hx h
  obtain ⟨hp, g, d, tk, os⟩ := s
  have hx : hp.get? x = some (instObj C dx) := hx
  unfold Builtin.«int.__add__» PySem.Builtin.Int.intBinary
  repeat (first
    | (refine wpAny_bind (m := asInt? (.ref x)) ?_; unfold asInt?; refine wpAny_bind (wpAny_load (s := ⟨hp, g, d, tk, os⟩) hx ?_); dsimp only [instObj])
    | wp_step)
  exact h
theorem ksp_addR {n : Int} {t : Tok} {Q : Value → Shared → Prop} (Fh : Fr h₀ L s.heap m) (X₀ : K.In h₀) (I : InstAt s.heap x (instObj C dx) C od) (hc : selfFirst K C = true)
    (hs : findIn K (.ref C) "__add__" = some (some (.ref f'))) (hr : findIn K (.ref C) "__radd__" = some (some (.ref f))) (hf : isFn K (.ref f) = true) (hsub : subIn K (.ref C) (.type "int") = some false)
    (h : wpAny (model prog w) A (call (.ref f) [.ref x, .int n t]) (PySem.W.CmpBack Q) E s) : wpAny (model prog w) A (binaryOp .Add (.int n t) (.ref x)) Q E s := by
  have X := X₀.keeps Fh.keep
  obtain ⟨cd, rest, hcd, hm⟩ := ksp_first hc
  have I' := I
  obtain ⟨hh, g, d, tt, os⟩ := s
  have L1 : Looks (model prog w) hh (typeOf (.ref x)) (.ref C) := I.type
  have L3 : Looks (model prog w) hh (fillsNumberSlot (.ref C) "add") true := fills_K X hcd hm hs
  have L5 : Looks (model prog w) hh (isSubtype (.ref C) (.type "int")) false := looks_subIn X hsub
  have L2 : Looks (model prog w) hh (typeOf (.int n t)) (.type "int") := Looks.of_pure rfl
  have L4 : Looks (model prog w) hh (fillsNumberSlot (.type "int") "add") true := Looks.of_pure F.fills_int_add
  have hne : (Value.type "int" == Value.ref C) = false := Bool.eq_false_iff.mpr fun q => by cases beq_iff_eq.mp q
  have two : ∀ {Q' : Option Value → Shared → Prop}, (∀ v s', Q v s' → Q' (some v) s') → wpAny (model prog w) A (tryMethod (.ref x) (dunderR "add") (.int n t)) Q' E ⟨hh, g, d, tt, os⟩ := fun hq => by
    refine wpAny_mono (ksp_try (Q := Q) X I' hr hf h) (fun r s' z => ?_) fun _ _ e => e
    obtain ⟨v, rfl, q⟩ := z
    exact hq _ _ q
  have one : ∀ {Q' : Option Value → Shared → Prop}, Q' none ⟨hh, g, d, tt, os⟩ → wpAny (model prog w) A (tryMethod (.int n t) (PySem.dunder "add") (.ref x)) Q' E ⟨hh, g, d, tt, os⟩ := fun hq =>
    wpAny_tryMethod_declines (typeIs_int _ n t) F.slot_int_add (call_givesAt F.slot_int_add (typeIs_int _ n t) F.entry_int_add (F.args_int_add_2 _ _) (add_declines (C := C) (dx := dx) n t x) I'.at_ ⟨rfl, hq⟩)
  simp only [binaryOp]
  refine wpAny_holding (wpAny_bind ?_)
  unfold binaryOp1
  refine wpAny_bind (L2.at (wpAny_bind (L1.at (wpAny_bind (L4.at ?_)))))
  simp only [hne, Bool.false_eq_true, if_false]
  refine wpAny_bind (L3.at ?_)
  simp only [Bool.and_self, if_true]
  refine wpAny_bind (L5.at ?_)
  simp only [Bool.false_eq_true, if_false, Bool.not_false, Bool.and_self, if_true]
  refine wpAny_bind (wpAny_pure ?_)
  simp only [Bool.false_eq_true, if_false]
  refine wpAny_bind (one ?_)
  dsimp only
  refine wpAny_bind (two fun v s' q => ?_)
  dsimp only
  exact wpAny_bind (wpAny_rule (wpAny_pure (wpAny_pure q)))
end
end Lm

namespace Lm
open PySem L2
section
variable {X : Cx} {CX : CXT} {k : Nat} {f f' C : Addr} {fd : FuncData} {ps : List Str} {sp : Sp} {E : XK}
/-- x op n, x an instance of the class at C, n an integer -/
def rBinInt (C : Addr) (sp : Sp) (E : XK) : R2 := fun x y H Q => ∃ a dx fs n, x = .ref a ∧ y = .int n ∧ H a = some (.ins C dx fs) ∧ sp [x, y] H Q E
/-- what the text says of the class's own op and of the integers' -/
structure BinInt (K : PySem.W.Frag) (C : Addr) (nm : String) : Prop where
  self : PySem.W.selfFirst K C = true
  r : ∃ rc, PySem.W.findIn K (.ref C) (PySem.dunderR nm) = some rc ∧ (rc = none ∨ ∃ g : Addr, rc = some (.ref g))
  i1 : ∃ fo, PySem.W.findIn K (.type "int") (PySem.dunder nm) = some fo
  i2 : ∃ ro, PySem.W.findIn K (.type "int") (PySem.dunderR nm) = some ro
  sub : PySem.W.subIn K (.type "int") (.ref C) = some false
theorem op_binInt {op : Operator} (F : FnOk X.prog X.w X.K X.mg X.base CX k f fd ps sp) (B : BinInt X.K C op.info.2) (hs : PySem.W.findIn X.K (.ref C) (PySem.dunder op.info.2) = some (some (.ref f))) (hf : PySem.W.isFn X.K (.ref f) = true) (hb : Binds X.K fd ps []) (hr : Room k X.A) (hx : Passes CX X E) :
    OpR X (binaryOp op) (rBinInt C sp E) := by
  intro pins s σ H x y v u Q I rx ry h
  obtain ⟨a, dx, fs, n, rfl, rfl, ha, q⟩ := h
  cases (show v = Value.ref a from rx)
  obtain ⟨t, e⟩ := (show ∃ t, u = Value.int n t from ry)
  subst e
  obtain ⟨mA, J, _⟩ := ins_get I.hok ha
  obtain ⟨od, J, _⟩ := J.look
  obtain ⟨m, hF⟩ := I.fr
  obtain ⟨rc, b1, b2⟩ := B.r
  obtain ⟨fo, b3⟩ := B.i1
  obtain ⟨ro, b4⟩ := B.i2
  refine PySem.W.ksp_binT (T := "int") hF I.ok.mod.kin J rfl B.self hs hf b1 b2 b3 b4 B.sub (wpAny_mono (run_in (us := [.ref a, .int n t]) (vs := [.ref a, .int n]) F hr I.env0 hb hx I (.cons rfl (.cons ⟨t, rfl⟩ .nil)) q) (fun w s' z => ?_) fun _ _ x => x)
  obtain ⟨z', H', I', rz, qz⟩ := z
  exact cmpBack rz ⟨z', H', I', rz, qz⟩
/-- n + x -/
def rAddR (C : Addr) (sp : Sp) (E : XK) : R2 := fun x y H Q => ∃ a dx fs n, x = .int n ∧ y = .ref a ∧ H a = some (.ins C dx fs) ∧ sp [y, x] H Q E
theorem op_addR (F : FnOk X.prog X.w X.K X.mg X.base CX k f fd ps sp) (hc : PySem.W.selfFirst X.K C = true) (hs' : PySem.W.findIn X.K (.ref C) "__add__" = some (some (.ref f'))) (hsub : PySem.W.subIn X.K (.ref C) (.type "int") = some false)
    (hs : PySem.W.findIn X.K (.ref C) "__radd__" = some (some (.ref f))) (hf : PySem.W.isFn X.K (.ref f) = true) (hb : Binds X.K fd ps []) (hr : Room k X.A) (hx : Passes CX X E) :
    OpR X (binaryOp .Add) (rAddR C sp E) := by
  intro pins s σ H x y v u Q I rx ry h
  obtain ⟨a, dx, fs, n, rfl, rfl, ha, q⟩ := h
  cases (show u = Value.ref a from ry)
  obtain ⟨t, e⟩ := (show ∃ t, v = Value.int n t from rx)
  subst e
  obtain ⟨mA, J, _⟩ := ins_get I.hok ha
  obtain ⟨od, J, _⟩ := J.look
  obtain ⟨m, hF⟩ := I.fr
  refine ksp_addR hF I.ok.mod.kin J hc hs' hs hf hsub (wpAny_mono (run_in (us := [.ref a, .int n t]) (vs := [.ref a, .int n]) F hr I.env0 hb hx I (.cons rfl (.cons ⟨t, rfl⟩ .nil)) q) (fun w s' z => ?_) fun _ _ x => x)
  obtain ⟨z', H', I', rz, qz⟩ := z
  exact cmpBack rz ⟨z', H', I', rz, qz⟩
theorem MetOk.bini {op : Operator} (D : MetOk X.prog X.w X.K X.mg X.base k C (PySem.dunder op.info.2) f fd ps sp) (B : BinInt X.K C op.info.2) (hr : Room k X.A) : OpR X (binaryOp op) (rBinInt C sp E0) := op_binInt D.ok B D.mt.at_ D.mt.fn D.bd hr pass0
theorem MetOk.addr (D : MetOk X.prog X.w X.K X.mg X.base k C "__radd__" f fd ps sp) (hc : PySem.W.selfFirst X.K C = true) (hs' : PySem.W.findIn X.K (.ref C) "__add__" = some (some (.ref f'))) (hsub : PySem.W.subIn X.K (.ref C) (.type "int") = some false) (hr : Room k X.A) :
    OpR X (binaryOp .Add) (rAddR C sp E0) := op_addR D.ok hc hs' hsub D.mt.at_ D.mt.fn D.bd hr pass0
theorem MetOk.gt (D : MetOk X.prog X.w X.K X.mg X.base k C "__gt__" f fd ps sp) (hr : Room k X.A) : OpR X (compareOp .Gt) (rBinOwn C sp E0) := op_cmpOwn (fun _ _ => rfl) D.ok D.mt.at_ D.mt.fn D.bd hr pass0
theorem MetOk.ge (D : MetOk X.prog X.w X.K X.mg X.base k C "__ge__" f fd ps sp) (hr : Room k X.A) : OpR X (compareOp .GtE) (rBinOwn C sp E0) := op_cmpOwn (fun _ _ => rfl) D.ok D.mt.at_ D.mt.fn D.bd hr pass0
/-- a property of a class, with its getter's promise -/
structure PrpOk (P : Program) (w : World) (K : PySem.W.Frag) (mg : Str → Option Value) (base : Heap) (k : Nat) (C p : Addr) (m : Str) (f : Addr) (fd : FuncData) (ps : List Str) (sp : Sp) : Prop where
  ok : FnOk P w K mg base CX0 k f fd ps sp
  bd : Binds K fd ps []
  pr : PropOf K C m p f
  cl : Cls K C
theorem pe_p {p : Addr} {m : Str} {e : Expr} {pos : Pos} {ta : TE} (D : PrpOk X.prog X.w X.K X.mg X.base k C p m f fd ps sp) (hr : Room (k + 1) X.A) (he : PE X e ta) (hab : attributeBase e m X.env (eval e X.env) = eval e X.env := by rfl) :
    PE X (.Attribute e m pos) (tProp C sp [] E0 ta) := pe_prop he D.cl D.pr D.ok hr D.bd .nil pass0 hab
end
end Lm

namespace Lm
open PySem L2 PyProof.Rows
section
variable {prog : Program} {w : World} {A : Around} {E : Value → Shared → Prop} {s : Shared}
theorem isList_push {h : Heap} {l : Addr} {items : Array Value} {o : Obj} (x : h.IsList l items) : (h.push o).IsList l items := by
  obtain ⟨ol, hol, r⟩ := x
  exact ⟨ol, Heap.get?_push_of_some _ hol, r⟩
theorem isList_ext {h h' : Heap} {it l : Addr} {items : Array Value} (x : h.IsList l items) (e : Heap.ExtBut it h h') (n : l ≠ it) : h'.IsList l items := by
  obtain ⟨ol, hol, r⟩ := x
  exact ⟨ol, e l ol n hol, r⟩
theorem draw_list {it t : Addr} {items : Array Value} (hne : t ≠ it) : ∀ (n i : Nat) (s : Shared) (Q : List Value → Shared → Prop), s.heap.IsListIter it t i → s.heap.IsList t items → i + n ≤ items.size →
    (∀ h', h'.IsListIter it t (i + n) → Heap.SameBut it s.heap h' → Q ((items.toList.drop i).take n) { s with heap := h' }) → wpAny (model prog w) A (draw (.ref it) n) Q E s
  | 0, i, s, Q, hit, _, _, hQ => by
    show wpAny _ _ (pure []) Q E s
    exact wpAny_pure (by simpa using hQ s.heap hit (Heap.SameBut.refl ..))
  | n + 1, i, s, Q, hit, ht, hle, hQ => by
    have hlt : i < items.size := by omega
    show wpAny _ _ (pyNext (.ref it) >>= _) Q E s
    refine wpAny_bind (wpAny_pyNext_list_item hit ht (x := items[i]) (by simp [hlt]) fun h₁ hit₁ hs₁ => ?_)
    refine wpAny_bind (wpAny_holding (draw_list hne n (i + 1) _ _ hit₁ (isList_ext ht hs₁.extBut hne) (by omega) fun h₂ hit₂ hs₂ => wpAny_pure ?_))
    have hd : items.toList.drop i = items[i] :: items.toList.drop (i + 1) := by simp [List.drop_eq_getElem_cons, hlt]
    have := hQ h₂ (by rw [show i + (n + 1) = i + 1 + n by omega]; exact hit₂) (hs₁.trans hs₂)
    rw [hd, List.take_succ_cons] at this
    exact this
theorem unpackItems_list {t : Addr} {items : Array Value} {Q : List Value → Shared → Prop} (hh : A.handled = none) (ht : s.heap.IsList t items)
    (hQ : ∀ h', Heap.ExtBut s.heap.objs.size s.heap h' → Q items.toList { s with heap := h' }) : wpAny (model prog w) A (unpackItems (.ref t) items.size none) Q E s := by
  have hlt : t ≠ s.heap.objs.size := by obtain ⟨o, ho, _⟩ := ht; exact Nat.ne_of_lt (Heap.lt_size ho)
  unfold unpackItems
  refine wpAny_bind ?_
  · unfold notIterableAtAll
    refine wpAny_bind (wpAny_specialOf ht.typeIs PySem.F.slot_list_iter.lookup ?_)
    refine wpAny_pure ?_
    simp only [Bool.false_eq_true, if_false]
    refine wpAny_bind (wpAny_holding (wpAny_pyIter_list ht ?_))
    refine wpAny_bind (wpAny_holding (draw_list hlt items.size 0 _ _ ⟨_, Heap.get?_push_size _ rfl, rfl, rfl⟩ (isList_push ht) (by omega) fun h₁ hit₁ hs₁ => ?_))
    have hall : List.take items.size (List.drop 0 items.toList) = items.toList := by
      rw [List.drop_zero]; exact List.take_of_length_le (by simp)
    rw [hall]
    rw [if_neg (by simp)]
    have ht₁ : h₁.IsList t items := isList_ext (isList_push ht) hs₁.extBut hlt
    refine wpAny_bind (wpAny_holding (wpAny_pyNext_list_end hh hit₁ ht₁ (by simp) fun h₂ he₂ => ?_))
    simp only [Option.isSome_none, Bool.false_eq_true, if_false]
    refine wpAny_pure (hQ h₂ fun b o hb e => he₂ b o hb (hs₁.extBut b o hb (Heap.get?_push_of_some _ e)))
theorem assign_Tuple_list {env : Env} {elts : List Expr} {x1} {pos : Pos} {t : Addr} {items : Array Value} {Q : Unit → Shared → Prop} (hh : A.handled = none) (ht : s.heap.IsList t items)
    (hn : (assignEach elts env).length = items.size) (hstar : (assignEach elts env).findIdx? (·.1) = none)
    (h : ∀ h', Heap.ExtBut s.heap.objs.size s.heap h' → wpAny (model prog w) A (assignInOrder ((assignEach elts env).map (·.2)) items.toList) Q E { s with heap := h' }) :
    wpAny (model prog w) A (assign (.Tuple elts x1 pos) env (.ref t)) Q E s := by
  rw [PyProof.Rows.assign_Tuple]
  refine wpAny_bind (wpAny_standAt ?_)
  unfold unpack
  rw [hn, hstar]
  exact wpAny_bind (wpAny_holding (unpackItems_list hh ht h))
end
/-- (a, b, ..) = a list of that length -/
def gTupL (K : PySem.W.Frag) (n : Nat) (t : TGs) : TG := fun v σ H Q => ∃ a xs, v = .ref a ∧ SqL K H a xs ∧ xs.length = n ∧ t xs σ H Q
theorem pg_tupL {X : Cx} {es : List Expr} {k : Nat} {pos : Pos} {t : TGs} {n : Nat} (hc : X.calm = true) (h : PGs X es t)
    (hn : (assignEach es X.env).length = n := by rfl) (hst : (assignEach es X.env).findIdx? (·.1) = none := by rfl) : PG X (.Tuple es k pos) (gTupL X.K n t) := by
  refine ⟨fun pins s σ H v u Q I r hw => ?_⟩
  obtain ⟨a, xs, e1, hq, hl, hw⟩ := hw
  subst e1
  cases r
  obtain ⟨its, rv, ⟨o, m, e, hcl, _, d⟩, hz⟩ := I.list hq
  refine assign_Tuple_list (I.ok.hd hc) ⟨o, e, hcl, m, d⟩ (by simp [hn, ← hl, rv.length]) hst fun h' hx => ?_
  have I1 : Inv X pins σ H { s with heap := h' } := I.kept (t' := s.toks) fun b o e => hx b o (Nat.ne_of_lt (Heap.lt_size e)) e
  exact h.run pins _ σ H xs _ Q I1 (by simpa using rv) hw
end Lm

namespace Lm
open PySem PySem.W PySem.Calls PyProof.Rows
open AutoSeq1 (wpAny_loadPart')
section
variable {prog : Program} {w : World} {A : Around} {E : Value → Shared → Prop} {s : Shared} {K : Frag} {x C L f dx : Addr} {h₀ : Heap} {m : Str → Option Value} {od : Option Obj}
theorem int_eq_ins (n : Int) (t : Tok) (x : Addr) {C dx : Addr} : GivesAt (fun s => s.heap.get? x = some (instObj C dx)) (Builtin.«int.__eq__» ⟨[.int n t, .ref x], []⟩) (.val .notImplemented) := by
  intro prog w A R s hx h
  obtain ⟨hp, g, d, tk, os⟩ := s
  have hx : hp.get? x = some (instObj C dx) := hx
  wp_walk using wpAny_load hx, wpAny_loadPart' hx
  exact h
theorem str_eq_ins (n : Str) (t : Tok) (x : Addr) {C dx : Addr} : GivesAt (fun s => s.heap.get? x = some (instObj C dx)) (Builtin.«str.__eq__» ⟨[.str n t, .ref x], []⟩) (.val .notImplemented) := by
  intro prog w A R s hx h
  obtain ⟨hp, g, d, tk, os⟩ := s
  have hx : hp.get? x = some (instObj C dx) := hx
  wp_walk using wpAny_load hx, wpAny_loadPart' hx
  exact h
theorem list_eq_ins (l x : Addr) {items : Array Value} {n : Nat} {dd : Option Addr} {sl : Array (Option Value)} : GivesAt (fun s => s.heap.get? l = some { cls := .type "list", dict := dd, data := .seq items n, slots := sl } ∧ ∀ prog w, Looks (model prog w) s.heap (isInstance (.ref x) (.type "list")) false)
    (Builtin.«list.__eq__» ⟨[.ref l, .ref x], []⟩) (.val .notImplemented) := by
  intro prog w A R s ⟨hl, hi⟩ h
  obtain ⟨hp, g, d, tk, os⟩ := s
  have hi := hi prog w
  wp_walk using hi.here, wpAny_loadPart' hl
  exact h
theorem tuple_eq_ins (l x : Addr) {items : Array Value} {n : Nat} {dd : Option Addr} {sl : Array (Option Value)} : GivesAt (fun s => s.heap.get? l = some { cls := .type "tuple", dict := dd, data := .seq items n, slots := sl } ∧ ∀ prog w, Looks (model prog w) s.heap (isInstance (.ref x) (.type "tuple")) false)
    (Builtin.«tuple.__eq__» ⟨[.ref l, .ref x], []⟩) (.val .notImplemented) := by
  intro prog w A R s ⟨hl, hi⟩ h
  obtain ⟨hp, g, d, tk, os⟩ := s
  have hi := hi prog w
  wp_walk using hi.here, wpAny_loadPart' hl
  exact h
/-- v == x, v of a built-in type whose own == declines, x an instance with an own == -/
theorem eq_refl_K {Q : Value → Shared → Prop} {v : Value} {T id : String} {ox : Obj} (hu : A.units < cLine) (F : Fr h₀ L s.heap m) (X₀ : K.In h₀) (I : InstAt s.heap x ox C od) (hT : s.TypeIs v T) (slot : Slot T (cmpInfo .Eq).2.1 id)
    (hsub : subIn K (.ref C) (.type T) = some false) (hs : findIn K (.ref C) "__eq__" = some (some (.ref f))) (hf : isFn K (.ref f) = true)
    (hc : ∀ Q' : Value → Shared → Prop, Q' .notImplemented s → wpAny (model prog w) A (call (.builtin id) [v, .ref x]) Q' E s)
    (h : wpAny (model prog w) A (call (.ref f) [.ref x, v]) (PySem.W.CmpBack Q) E s) : wpAny (model prog w) A (richCompare .Eq v (.ref x)) Q E s := by
  have X := X₀.keeps F.keep
  have two : wpAny (model prog w) A (tryCompare (.ref x) "__eq__" v) (fun r s' => ∃ u, r = some u ∧ Q u s') E s := by
    unfold tryCompare
    refine wpAny_bind (ifBound_K X I hs hf (wpAny_mono h (fun v s' hv => ?_) fun _ _ e => e))
    cases v <;> first | exact hv.elim | exact wpAny_pure ⟨_, rfl, hv⟩
  have hne : (Value.type T != Value.ref C) = true := by
    rw [bne_iff_ne]; intro z; cases z
  simp only [richCompare, cmpInfo, hT.oneThing_none] at slot ⊢
  refine wpAny_holding ?_
  refine wpAny_bind (wpAny_cRoomFor hu ?_)
  refine wpAny_bind (wpAny_typeOf hT (wpAny_bind (I.type.here ?_)))
  simp only [hne, if_true]
  refine wpAny_bind ((looks_subIn X hsub).here ?_)
  simp only [Bool.false_eq_true, if_false, Bool.not_false, if_true]
  refine wpAny_bind (m := tryCompare v _ (.ref x)) (wpAny_tryCompare_declines hT slot (hc _ ⟨rfl, ?_⟩))
  refine wpAny_bind (wpAny_mono two (fun r s' z => ?_) fun _ _ e => e)
  obtain ⟨u, rfl, hq⟩ := z
  exact wpAny_pure hq
end
end Lm

namespace Lm
open PySem L2 RZ
theorem walk_zipT {K : PySem.W.Frag} {a b : Addr} {xs ys : List V} {n : Nat} (hn : n = min xs.length ys.length) : Walk (ItzT K a b) n (fun H => SqT K H a xs ∧ SqT K H b ys) (YPair (fun i => xs[i]?) (fun i => ys[i]?)) := by
  subst hn
  refine ⟨fun i _ hi q => ?_, fun _ q => ⟨xs, ys, q.1, q.2, by omega⟩, fun i H v H' _ q y => ?_⟩
  · have h1 : i < xs.length := by omega
    have h2 : i < ys.length := by omega
    exact ⟨xs, ys, xs[i], ys[i], q.1, q.2, by simp [h1], by simp [h2]⟩
  · obtain ⟨T, x, z, h1, h2, h3, h4, h5⟩ := y
    exact ⟨T, x, z, h1, h2, h3, h4 xs q.1, h5 ys q.2⟩
/-- built-in values whose own == declines an instance -/
inductive TyE (H : Hp) : V → String → Prop where
  | non : TyE H .non "NoneType"
  | int (i : Int) : TyE H (.int i) "int"
  | str (x : Str) : TyE H (.str x) "str"
  | lst {a : Addr} {xs : List V} (e : H a = some (.lst xs)) : TyE H (.ref a) "list"
  | tup {a : Addr} {xs : List V} (e : H a = some (.tup xs)) : TyE H (.ref a) "tuple"
section
variable {X : Cx} {CX : CXT} {k : Nat} {f C : Addr} {fd : FuncData} {ps : List Str} {sp : Sp} {E : XK}
theorem op_or {op : Value → Value → Sem Value} {r r' : R2} (h : OpR X op r) (h' : OpR X op r') : OpR X op (fun x y H Q => r x y H Q ∨ r' x y H Q) := by
  intro pins s σ H x y v u Q I rx ry q
  rcases q with q | q
  · exact h pins s σ H x y v u Q I rx ry q
  · exact h' pins s σ H x y v u Q I rx ry q
/-- x == y, x an instance with an own ==, y anything -/
def rEqL (K : PySem.W.Frag) (C : Addr) (sp : Sp) (E : XK) : R2 := fun x y H Q => ∃ a dx fs t, x = .ref a ∧ H a = some (.ins C dx fs) ∧ TyX K H y t ∧ PySem.W.notFirst K C t = true ∧ sp [x, y] H Q E
theorem op_eqL (F : FnOk X.prog X.w X.K X.mg X.base CX k f fd ps sp) (hs : PySem.W.findIn X.K (.ref C) "__eq__" = some (some (.ref f))) (hf : PySem.W.isFn X.K (.ref f) = true) (hb : Binds X.K fd ps []) (hr : Room k X.A) (hx : Passes CX X E) :
    OpR X (compareOp .Eq) (rEqL X.K C sp E) := by
  intro pins s σ H x y v u Q I rx ry h
  obtain ⟨a, dx, fs, t, rfl, ha, ty, hn, q⟩ := h
  cases (show v = Value.ref a from rx)
  obtain ⟨mA, J, _⟩ := ins_get I.hok ha
  obtain ⟨od, J, _⟩ := J.look
  obtain ⟨P, Z, p, _⟩ := kit_of I ry ty
  obtain ⟨m, hF⟩ := I.fr
  show wpAny _ _ (richCompare .Eq _ _) _ _ _
  refine PySem.W.cmp_K (op := .Eq) (tb := t) hr.units0 hF I.ok.mod.kin J (Z.ty _ _ I.kIn p) hn hs hf (wpAny_mono (run_in (us := [.ref a, u]) (vs := [.ref a, y]) F hr I.env0 hb hx I (.cons rfl (.cons ry .nil)) q) (fun w s' z => ?_) fun _ _ x => x)
  obtain ⟨z', H', I', rz, qz⟩ := z
  exact cmpBack rz ⟨z', H', I', rz, qz⟩
/-- x != y, x an instance with an own == alone, y anything -/
def rNeL (K : PySem.W.Frag) (C : Addr) (sp : Sp) (E : XK) : R2 := fun x y H Q => ∃ a dx fs t, x = .ref a ∧ H a = some (.ins C dx fs) ∧ TyX K H y t ∧ PySem.W.notFirst K C t = true ∧ sp [x, y] H (fun z H' => ∃ k : Bool, z = .bl k ∧ Q (.bl (!k)) H') E
theorem op_neL (F : FnOk X.prog X.w X.K X.mg X.base CX k f fd ps sp) (hs : PySem.W.findIn X.K (.ref C) "__eq__" = some (some (.ref f))) (hf : PySem.W.isFn X.K (.ref f) = true) (hb : Binds X.K fd ps [])
    (hn : PySem.W.findIn X.K (.ref C) "__ne__" = some (some (.builtin "object.__ne__"))) (ho : PySem.W.subIn X.K (.ref C) (.type "object") = some true) (hr : Room (k + 1) X.A) (hx : Passes CX X E) :
    OpR X (compareOp .NotEq) (rNeL X.K C sp E) := by
  intro pins s σ H x y v u Q I rx ry h
  obtain ⟨a, dx, fs, t, rfl, ha, ty, hnf, q⟩ := h
  cases (show v = Value.ref a from rx)
  obtain ⟨mA, J, _⟩ := ins_get I.hok ha
  obtain ⟨od, J, _⟩ := J.look
  obtain ⟨P, Z, p, _⟩ := kit_of I ry ty
  obtain ⟨m, hF⟩ := I.fr
  show wpAny _ _ (richCompare .NotEq _ _) _ _ _
  refine ne_own (tb := t) (by have := hr.un; omega) hF I.ok.mod.kin J (Z.ty _ _ I.kIn p) hnf hn ho hs hf
    (wpAny_mono (run_in (us := [.ref a, u]) (vs := [.ref a, y]) F hr.in1 I.env0.in1 hb hx I (.cons rfl (.cons ry .nil)) q) (fun w s' z => ?_) fun _ _ x => x)
  obtain ⟨z', H', I', rz, b, ez, qz⟩ := z
  subst ez
  cases (show w = Value.bool b from rz)
  exact ⟨b, rfl, .bl _, H', I', rfl, qz⟩
/-- x == y, x of a built-in type, y an instance with an own == -/
def rEqR (K : PySem.W.Frag) (C : Addr) (sp : Sp) (E : XK) : R2 := fun x y H Q => ∃ b dy gs T, y = .ref b ∧ H b = some (.ins C dy gs) ∧ TyE H x T ∧ PySem.W.subIn K (.ref C) (.type T) = some false ∧ sp [y, x] H Q E
theorem op_eqR (F : FnOk X.prog X.w X.K X.mg X.base CX k f fd ps sp) (hs : PySem.W.findIn X.K (.ref C) "__eq__" = some (some (.ref f))) (hf : PySem.W.isFn X.K (.ref f) = true) (hb : Binds X.K fd ps []) (hr : Room k X.A) (hx : Passes CX X E) :
    OpR X (compareOp .Eq) (rEqR X.K C sp E) := by
  intro pins s σ H x y v u Q I rx ry h
  obtain ⟨b, dy, gs, T, rfl, hb', ty, hsub, q⟩ := h
  cases (show u = Value.ref b from ry)
  obtain ⟨mA, J, _⟩ := ins_get I.hok hb'
  obtain ⟨od, J, _⟩ := J.look
  obtain ⟨m, hF⟩ := I.fr
  show wpAny _ _ (richCompare .Eq _ _) _ _ _
  have run : wpAny (model X.prog X.w) X.A (call (.ref f) [.ref b, v]) (PySem.W.CmpBack (EP X pins σ Q)) X.xe s := by
    refine wpAny_mono (run_in (us := [.ref b, v]) (vs := [.ref b, x]) F hr I.env0 hb hx I (.cons rfl (.cons rx .nil)) q) (fun w s' z => ?_) fun _ _ x => x
    obtain ⟨z', H', I', rz, qz⟩ := z
    exact cmpBack rz ⟨z', H', I', rz, qz⟩
  have hin : ∀ (T : String), PySem.W.subIn X.K (.ref C) (.type T) = some false → ∀ prog w, PySem.W.Looks (model prog w) s.heap (isInstance (.ref b) (.type T)) false := fun T h prog w => J.type.andThen (PySem.W.looks_subIn I.kIn h)
  cases ty with
  | non =>
    cases (show v = Value.none from rx)
    exact eq_refl_K hr.units0 hF I.ok.mod.kin J rfl PySem.F.slot_NoneType_eq hsub hs hf (fun Q' hq => call_gives PySem.F.slot_NoneType_eq rfl PySem.F.entry_NoneType_eq (PySem.F.args_NoneType_eq_2 _ _) (SeqAt.NoneType___eq___none_ref_0 b) hq) run
  | int i =>
    obtain ⟨t, e⟩ := (show ∃ t, v = Value.int i t from rx)
    subst e
    exact eq_refl_K hr.units0 hF I.ok.mod.kin J (typeIs_int _ i t) PySem.F.slot_int_eq hsub hs hf (fun Q' hq => PySem.call_givesAt PySem.F.slot_int_eq (typeIs_int _ i t) PySem.F.entry_int_eq (PySem.F.args_int_eq_2 _ _) (int_eq_ins i t b) J.at_ hq) run
  | str i =>
    obtain ⟨t, e⟩ := (show ∃ t, v = Value.str i t from rx)
    subst e
    exact eq_refl_K hr.units0 hF I.ok.mod.kin J (typeIs_str _ i t) PySem.F.slot_str_eq hsub hs hf (fun Q' hq => PySem.call_givesAt PySem.F.slot_str_eq (typeIs_str _ i t) PySem.F.entry_str_eq (PySem.F.args_str_eq_2 _ _) (str_eq_ins i t b) J.at_ hq) run
  | @lst a xs e =>
    cases (show v = Value.ref a from rx)
    obtain ⟨_, _, n, _, h1⟩ := (show ObjOk X.prog X.w H s.heap a (.lst xs) from I.hok a _ e)
    exact eq_refl_K hr.units0 hF I.ok.mod.kin J ⟨_, h1, rfl⟩ PySem.F.slot_list_eq hsub hs hf (fun Q' hq => PySem.call_givesAt PySem.F.slot_list_eq ⟨_, h1, rfl⟩ PySem.F.entry_list_eq (PySem.F.args_list_eq_2 _ _) (list_eq_ins a b) ⟨h1, hin _ hsub⟩ hq) run
  | @tup a xs e =>
    cases (show v = Value.ref a from rx)
    obtain ⟨_, _, _, ⟨oc, od', dt, sl⟩, h1, h2, n, h3⟩ := (show ObjOk X.prog X.w H s.heap a (.tup xs) from I.hok a _ e)
    simp only at h2 h3
    subst h2 h3
    exact eq_refl_K hr.units0 hF I.ok.mod.kin J ⟨_, h1, rfl⟩ PySem.F.slot_tuple_eq hsub hs hf (fun Q' hq => PySem.call_givesAt PySem.F.slot_tuple_eq ⟨_, h1, rfl⟩ PySem.F.entry_tuple_eq (PySem.F.args_tuple_eq_2 _ _) (tuple_eq_ins a b) ⟨h1, hin _ hsub⟩ hq) run
theorem MetOk.eqL (D : MetOk X.prog X.w X.K X.mg X.base k C "__eq__" f fd ps sp) (hr : Room k X.A) : OpR X (compareOp .Eq) (rEqL X.K C sp E0) := op_eqL D.ok D.mt.at_ D.mt.fn D.bd hr pass0
theorem MetOk.eqR (D : MetOk X.prog X.w X.K X.mg X.base k C "__eq__" f fd ps sp) (hr : Room k X.A) : OpR X (compareOp .Eq) (rEqR X.K C sp E0) := op_eqR D.ok D.mt.at_ D.mt.fn D.bd hr pass0
theorem MetOk.neL (D : MetOk X.prog X.w X.K X.mg X.base k C "__eq__" f fd ps sp) (hn : PySem.W.findIn X.K (.ref C) "__ne__" = some (some (.builtin "object.__ne__"))) (ho : PySem.W.subIn X.K (.ref C) (.type "object") = some true) (hr : Room (k + 1) X.A) :
    OpR X (compareOp .NotEq) (rNeL X.K C sp E0) := op_neL D.ok D.mt.at_ D.mt.fn D.bd hn ho hr pass0
end
def rAddS : R2 := fun x y H Q => ∃ i j, x = .str i ∧ y = .str j ∧ i.length + j.length ≤ sizeLine ∧ Q (.str (i ++ j)) H
/-! ### C(k2 = b, k1 = a) -/
def swapR {α : Type} (us ws : List α) : List α := us ++ ws.reverse
theorem vals_snoc : ∀ {vs : List V} {us : List Value} {v : V} {u : Value}, Vals vs us → RelV v u → Vals (vs ++ [v]) (us ++ [u])
  | _, _, _, _, .nil, r => .cons r .nil
  | _, _, _, _, .cons a b, r => .cons a (vals_snoc b r)
theorem vals_rev : ∀ {vs : List V} {us : List Value}, Vals vs us → Vals vs.reverse us.reverse
  | _, _, .nil => .nil
  | _, _, .cons a b => by rw [List.reverse_cons, List.reverse_cons]; exact vals_snoc (vals_rev b) a
theorem vals_app : ∀ {vs : List V} {us : List Value} {ws : List V} {zs : List Value}, Vals vs us → Vals ws zs → Vals (vs ++ ws) (us ++ zs)
  | _, _, _, _, .nil, r => r
  | _, _, _, _, .cons a b, r => .cons a (vals_app b r)
theorem Fun.swap {K : PySem.W.Frag} {x qual : Str} {st : Stmt} {f : Addr} {fd : FuncData} {ps : List Str} {k1 k2 : Str} (F : Fun K x qual st f fd)
    (h : ∀ (kV doc pm : Value) (an : Option Addr) (cdv ct : Value) (a b c : Value), bindArgs (PySem.W.fnOf x qual (defArgs st) (defBody st) (defScope st) .none kV doc pm an cdv ct) ⟨[a], [(k2, c), (k1, b)]⟩ = pure (ps.zip [a, b, c])) : KBn K fd ps 1 [k2, k1] swapR swapR := by
  obtain ⟨oc, od, kV, doc, pm, an, cdv, ct, osl, rfl, lk, hcd⟩ := F.ex
  refine ⟨fun s us ws X l1 l2 => ?_, fun r1 r2 => vals_app r1 (vals_rev r2)⟩
  match us, ws, l1, l2 with
  | [a], [c, b], _, _ => exact .of_eq (h kV doc pm an cdv ct a b c)
section
variable {X : Cx} {k : Nat} {f C : Addr} {fd : FuncData} {ps ks : List Str} {sp : Sp} {x : Str} {p pos : Pos} {kws : List Keyword} {tk : TA} {g : List Value → List Value → List Value} {gV : List V → List V → List V}
theorem pe_mkK (D : ClsOk X.prog X.w X.K X.mg X.base k x C f fd ps sp) (hb : KBn X.K fd ps 1 ks g gV) (hr : Room (k + 1) X.A) (hkw : PK X kws tk) (hg : Gl X x := by rfl) (hdb : (x == ("__debug__" : Str)) = false := by decide)
    (hall : (backToKw pos (keywordEach kws X.env)).all (·.1.isSome) = true := by rfl) (hks : (backToKw pos (keywordEach kws X.env)).filterMap (·.1) = ks := by rfl)
    (hpl : ((backTo pos (starEach [] X.env)).any (·.1) || (backToKw pos (keywordEach kws X.env)).any (·.1.isNone)) = false := by rfl) :
    PE X (.Call (.Name x p) [] kws pos) (tMakeK C 0 ks.length sp gV E0 tNil tk) := pe_makeK0 D.mkr D.ok hr hg D.mg hb pass0 hkw hall hks hdb hpl
end
end Lm

namespace Lm
open PySem L2
section
variable {X : Cx} {C : Addr} {bmB : List Value} {B newId initId : String}
/-- X(), X an own exception class without own __init__ -/
theorem pmk_own0 {x : Str} {p pos : Pos} (F : ExcBaseFacts B newId initId bmB) (q : PySem.W.excIn X.K C bmB newId = true) (gC : X.mg x = some (.ref C)) (kC : PySem.W.keepIn X.K (.ref C) = true) (r : Raises X (.ref C)) (hg : Gl X x := by rfl) (hdb : (x == ("__debug__" : Str)) = false := by decide) :
    PMk X (.Call (.Name x p) [] [] pos) (fun _ H Q => Q (.ref C) none H) := by
  intro pins s σ H Q I h
  refine wpAny_Call_Name_kw (ld_glob I hg gC ?_ hdb)
  refine PySem.W.callWith_K0 (first := []) I.kIn kC ?_
  show wpAny _ _ (call (.ref C) []) _ _ _
  obtain ⟨bm, N, nm, qn, bs, hdct, sn, sub, ab, col, dd, k0, k1, k2, k3, k5, mN, hC, hN, hni, T⟩ := exc_obj I.kIn q
  refine wpAny_call_exc_subT F T hC hN hni (fun h' e hm => ?_) (Nat.zero_le _)
  exact mk_of I hm r h (I.hok.gone hm.new)
end
/-- what the text says of an own error -/
structure ErrTxt (K : PySem.W.Frag) (mg : Str → Option Value) (x : Str) (C : Addr) : Prop where
  g : mg x = some (.ref C)
  xi : PySem.W.excIn K C [.type "ValueError", .type "Exception", .type "BaseException", .type "object"] "ValueError.__new__" = true
  kp : PySem.W.keepIn K (.ref C) = true
  b : PySem.W.subIn K (.ref C) (.type "BaseException") = some true
  t : PySem.W.typeIn K (.ref C) = some (.type "type")
  ic : PySem.W.isClsIn K C = true
  self : PySem.W.subIn K (.ref C) (.ref C) = some true
/-- an error of the class at S is what «except S» names -/
theorem exm_self {K : PySem.W.Frag} {S : Addr} (h1 : PySem.W.subIn K (.ref S) (.type "BaseException") = some true) (h2 : PySem.W.isClsIn K S = true) (h3 : PySem.W.typeIn K (.ref S) = some (.type "type")) (h4 : PySem.W.subIn K (.ref S) (.ref S) = some true) :
    PySem.W.exmOne K (.ref S) (.ref S) = some true := by
  have e1 : (PySem.W.subIn K (.ref S) (.type "BaseException") == some true) = true := by rw [h1] <;> rfl
  have e2 : ((PySem.W.clsIn K S).isSome && PySem.W.typeIn K (.ref S) == some (.type "type")) = true := by
    have h2' : (PySem.W.clsIn K S).isSome = true := h2
    rw [h2', h3] <;> rfl
  show (if (PySem.W.subIn K (.ref S) (.type "BaseException") == some true) = true then (if ((PySem.W.clsIn K S).isSome && PySem.W.typeIn K (.ref S) == some (.type "type")) = true then PySem.W.subIn K (.ref S) (.ref S) else none) else none) = some true
  rw [if_pos e1, if_pos e2]
  exact h4
theorem ErrTxt.exm {K : PySem.W.Frag} {mg : Str → Option Value} {x : Str} {C : Addr} (T : ErrTxt K mg x C) : PySem.W.exmOne K (.ref C) (.ref C) = some true := exm_self T.b T.ic T.t T.self
theorem ErrTxt.call {X : Cx} {x : Str} {C : Addr} {p pos : Pos} (T : ErrTxt X.K X.mg x C) (hg : Gl X x := by rfl) (hdb : (x == ("__debug__" : Str)) = false := by decide) : PMk X (.Call (.Name x p) [] [] pos) (fun _ H Q => Q (.ref C) none H) :=
  pmk_own0 PySem.F.excBase_ValueError T.xi T.g T.kp (raises_own T.b T.t) hg hdb
/-! ### defs and methods that raise -/
structure DefOkX (P : Program) (w : World) (K : PySem.W.Frag) (mg : Str → Option Value) (base : Heap) (k : Nat) (x : Str) (f : Addr) (fd : FuncData) (ps : List Str) (sp : Sp) : Prop where
  ok : FnOk P w K mg base (L2.CX P w) k f fd ps sp
  kp : PySem.W.keepIn K (.ref f) = true
  bd : Binds K fd ps []
  mg : mg x = some (.ref f)
structure MetOkX (P : Program) (w : World) (K : PySem.W.Frag) (mg : Str → Option Value) (base : Heap) (k : Nat) (C : Addr) (m : Str) (f : Addr) (fd : FuncData) (ps : List Str) (sp : Sp) : Prop where
  ok : FnOk P w K mg base (L2.CX P w) k f fd ps sp
  bd : Binds K fd ps []
  mt : Meth K C m f
  cl : Cls K C
/-- o.m(e, ..) that may raise, at the slots -/
def tMethE (C : Addr) (m : Str) (sp : Sp) (E : St → XK) (ta : TE) (t : TA) : TE := fun σ H Q => ta σ H fun x H1 => ∃ a dx fs, x = .ref a ∧ H1 a = some (.ins C dx fs) ∧ fs.lookup m = none ∧ t σ H1 fun vs H2 => sp (.ref a :: vs) H2 Q (E σ)
/-- o.m(k = v, ..) -/
def tMethK (C : Addr) (m : Str) (n : Nat) (sp : Sp) (gV : List V → List V → List V) (E : XK) (ta : TE) (tk : TA) : TE := fun σ H Q => ta σ H fun x H1 => ∃ a dx fs, x = .ref a ∧ H1 a = some (.ins C dx fs) ∧ fs.lookup m = none ∧ tk σ H1 fun zs H2 => zs.length = n ∧ sp (gV [.ref a] zs) H2 Q E
section
variable {X : Cx} {k : Nat} {f C : Addr} {fd : FuncData} {ps ks : List Str} {sp : Sp} {E : XK} {x m : Str} {p pos apos : Pos} {e o : Expr} {es : List Expr} {kws : List Keyword} {ta : TE} {t tk : TA} {g : List Value → List Value → List Value} {gV : List V → List V → List V}
theorem pe_dX (D : DefOkX X.prog X.w X.K X.mg X.base k x f fd ps sp) (hr : Room k X.A) (hx : Passes (L2.CX X.prog X.w) X E) (ha : PA X (e :: es) t) (hg : Gl X x := by rfl) (hdb : (x == ("__debug__" : Str)) = false := by decide)
    (he : starEach (e :: es) X.env = (false, eval e X.env) :: starEach es X.env := by rfl) (hpl : (backTo pos (starEach es X.env)).any (·.1) = false := by rfl) :
    PE X (.Call (.Name x p) (e :: es) [] pos) (tCall sp [] E t) := pe_call D.ok hr hg D.mg D.kp D.bd .nil hx ha hdb he hpl
theorem pe_mX {pl : Sem Bool} {E : St → XK} (D : MetOkX X.prog X.w X.K X.mg X.base k C m f fd ps sp) (hr : Room k X.A) (hx : ∀ σ, PassesAt (L2.CX X.prog X.w) X σ (E σ)) (he : PE X o ta) (ha : PA X (e :: es) t)
    (hst : starEach (e :: es) X.env = (false, eval e X.env) :: starEach es X.env := by rfl) (hpl : (backTo pos (starEach es X.env)).any (·.1) = false := by rfl)
    (ht : eval (.Call (.Attribute o m apos) (e :: es) [] pos) X.env = (do
      let ov ← eval o X.env
      standAt apos.atName
      let (f, first) ← holding [ov] (getMethod ov m pl)
      callWith pos f first (backTo pos (starEach (e :: es) X.env)) (backToKw pos (keywordEach [] X.env))) := by rfl) :
    PE X (.Call (.Attribute o m apos) (e :: es) [] pos) (tMethE C m sp E ta t) := by
  refine ⟨fun pins s σ H Q I h => ?_⟩
  refine PySem.W.methodCall_KW (pl := pl) (thn (he.run pins s σ H _ I h) fun u s1 ⟨x, H1, I1, rx, a, dx, fs, ex, ea, l, q⟩ => ?_) ht
  subst ex
  obtain rfl : u = Value.ref a := rx
  refine getmeth_ok I1 ea D.cl D.mt l ?_
  refine PySem.W.callWith_K (first := [.ref a]) (h₀ := X.base) I.ok.mod.kin D.mt.kp (thn (ha.run pos pins s1 σ H1 _ I1 q) fun us s2 ⟨vs, H2, I2, r, q2⟩ => ⟨I2.kIn, ?_⟩) hst hpl
  exact run_fnS (us := .ref a :: us) (vs := .ref a :: vs) D.ok hr D.bd (hx σ) I2 (.cons rfl r) q2
theorem pe_mk_ {pl : Sem Bool} (D : MetOk X.prog X.w X.K X.mg X.base k C m f fd ps sp) (hb : KBn X.K fd ps 1 ks g gV) (hr : Room k X.A) (he : PE X o ta) (hkw : PK X kws tk)
    (hall : (backToKw pos (keywordEach kws X.env)).all (·.1.isSome) = true := by rfl) (hks : (backToKw pos (keywordEach kws X.env)).filterMap (·.1) = ks := by rfl)
    (hpl : ((backTo pos (starEach [] X.env)).any (·.1) || (backToKw pos (keywordEach kws X.env)).any (·.1.isNone)) = false := by rfl)
    (ht : eval (.Call (.Attribute o m apos) [] kws pos) X.env = (do
      let ov ← eval o X.env
      standAt apos.atName
      let (f, first) ← holding [ov] (getMethod ov m pl)
      callWith pos f first (backTo pos (starEach [] X.env)) (backToKw pos (keywordEach kws X.env))) := by rfl) :
    PE X (.Call (.Attribute o m apos) [] kws pos) (tMethK C m ks.length sp gV E0 ta tk) := by
  refine ⟨fun pins s σ H Q I h => ?_⟩
  refine PySem.W.methodCall_KW (pl := pl) (thn (he.run pins s σ H _ I h) fun u s1 ⟨x, H1, I1, rx, a, dx, fs, ex, ea, l, q⟩ => ?_) ht
  subst ex
  obtain rfl : u = Value.ref a := rx
  refine getmeth_ok I1 ea D.cl D.mt l ?_
  refine PySem.W.callWith_KW0 (first := [.ref a]) (h₀ := X.base) I.ok.mod.kin D.mt.kp hall ?_ hpl
  refine thn (hkw.run pos pins s1 σ H1 _ I1 q) fun ws s2 ⟨zs, H2, I2, rz, l2, q2⟩ => ⟨I2.kIn, ?_⟩
  rw [hks]
  have r2 := hb.rel (vs := [V.ref a]) (us := [Value.ref a]) (.cons rfl .nil) rz
  show wpAny _ _ (call (.ref f) [.ref a] (ks.zip ws)) _ _ _
  refine wpAny_call (codeAny_mono (D.ok.run X.A X.stack s2 H2 ⟨[.ref a], ks.zip ws⟩ (g [.ref a] ws) (gV [.ref a] zs) Q E0 hr I2.env0 (hb.to s2 [.ref a] ws I2.kIn rfl (rz.length.symm.trans l2)) r2 q2) fun r s' hq => ?_)
  cases r with
  | error e => exact pass0 pins σ H2 s2 e s' I2 hq
  | ok fl =>
    cases fl with
    | ret u => exact I2.after hq
    | next => exact False.elim hq
    | brk => exact False.elim hq
    | cont => exact False.elim hq
end
/-- one keyword alone -/
def oneR {α : Type} (us ws : List α) : List α := us ++ ws
theorem Fun.kone {K : PySem.W.Frag} {x qual : Str} {st : Stmt} {f : Addr} {fd : FuncData} {ps : List Str} {k1 : Str} (F : Fun K x qual st f fd)
    (h : ∀ (kV doc pm : Value) (an : Option Addr) (cdv ct : Value) (a b : Value), bindArgs (PySem.W.fnOf x qual (defArgs st) (defBody st) (defScope st) .none kV doc pm an cdv ct) ⟨[a], [(k1, b)]⟩ = pure (ps.zip [a, b])) : KBn K fd ps 1 [k1] oneR oneR := by
  obtain ⟨oc, od, kV, doc, pm, an, cdv, ct, osl, rfl, lk, hcd⟩ := F.ex
  refine ⟨fun s us ws X l1 l2 => ?_, fun r1 r2 => vals_app r1 r2⟩
  match us, ws, l1, l2 with
  | [a], [b], _, _ => exact .of_eq (h kV doc pm an cdv ct a b)
end Lm

namespace Lm
open PySem L2 PyProof.Rows PySem.Spec
theorem tuple_mul_same (l : Addr) (items : Array Value) (n : Nat) (dd : Option Addr) (sl : Array (Option Value)) (x : Int) (u : Tok) (c0 : (decide (x < -(2 ^ 63)) || decide (x ≥ 2 ^ 63)) = false) (c1 : (items.isEmpty || x == 1) = true) :
    Meets (Builtin.«tuple.__mul__» ⟨[.ref l, .int x u], []⟩) (fun _ R s => s.heap.get? l = some { cls := .type "tuple", dict := dd, data := .seq items n, slots := sl } ∧ R (.ok (.ret (Value.ref l))) s) :=
  .of_wp fun prog w A R s h => by
    obtain ⟨hp, g, d, tk, os⟩ := s
    obtain ⟨hl, h⟩ := h
    have f1 := AutoSeq1.idx_int
    wp_walk using wpAny_loadPart' hl, wpAny_load hl
    repeat (first
      | (refine wpAny_ite_false (decide_eq_false (by rw [c0]; exact Bool.false_ne_true)) ?_; wp_walk using wpAny_loadPart' hl, wpAny_load hl)
      | (refine wpAny_ite_true (decide_eq_true (by rw [c1])) ?_; wp_walk using wpAny_loadPart' hl, wpAny_load hl))
    all_goals first | exact ⟨_, rfl, h⟩ | exact h | skip
theorem tuple_mul_zero (l : Addr) (items : Array Value) (n : Nat) (dd : Option Addr) (sl : Array (Option Value)) (x : Int) (u : Tok) (c0 : (decide (x < -(2 ^ 63)) || decide (x ≥ 2 ^ 63)) = false) (c1 : (items.isEmpty || x == 1) = false) (c2 : (decide (x ≤ 0) || items.isEmpty) = true) :
    Meets (Builtin.«tuple.__mul__» ⟨[.ref l, .int x u], []⟩) (fun _ R s => s.heap.get? l = some { cls := .type "tuple", dict := dd, data := .seq items n, slots := sl } ∧ 
      R (.ok (.ret (Value.ref s.heap.objs.size))) { s with heap := s.heap.push { cls := Value.type "tuple", data := Data.seq #[] }, toks := s.toks }) :=
  .of_wp fun prog w A R s h => by
    obtain ⟨hp, g, d, tk, os⟩ := s
    obtain ⟨hl, h⟩ := h
    have f1 := AutoSeq1.idx_int
    wp_walk using wpAny_loadPart' hl
    repeat (first
      | (refine wpAny_ite_false (decide_eq_false (by rw [c0]; exact Bool.false_ne_true)) ?_; wp_walk using wpAny_loadPart' hl)
      | (refine wpAny_ite_false (decide_eq_false (by rw [c1]; exact Bool.false_ne_true)) ?_; wp_walk using wpAny_loadPart' hl)
      | (refine wpAny_ite_true (decide_eq_true (by rw [c2])) ?_; wp_walk using wpAny_loadPart' hl))
    all_goals first | exact ⟨_, rfl, h⟩ | exact h | skip
def rRepTA (K : PySem.W.Frag) : R2 := fun x y H Q => ∃ l k xs, x = .ref l ∧ y = .int k ∧ SqT K H l xs ∧ 0 ≤ k ∧ k ≤ 1000 ∧ xs.length ≤ 1000 ∧ ((xs = [] ∨ k = 1) → Q (.ref l) H) ∧ (¬ (xs = [] ∨ k = 1) → ∀ p, H p = none → Q (.ref p) (upd H p (.tup (List.replicate k.toNat xs).flatten)))
section
variable {X : Cx}
theorem op_repTA : OpR X (binaryOp .Mult) (rRepTA X.K) := by
  intro pins s σ H x y v u Q I rx ry h
  obtain ⟨l, k, xs, rfl, rfl, hT, h1, h2, hz, q1, q2⟩ := h
  by_cases hsame : xs = [] ∨ k = 1
  · have q1 := q1 hsame
    cases rx
    obtain ⟨t, rfl⟩ := ry
    obtain ⟨its, r, ⟨⟨cls, dd, data, sl⟩, ho, hc, n, hd⟩, hs⟩ := I.tuple hT
    simp only at hc hd
    subst hc hd
    have hle : its.length = xs.length := r.length.symm
    have c0 : (decide (k < -(2 ^ 63)) || decide (k ≥ 2 ^ 63)) = false := by
      rw [decide_eq_false (by omega), decide_eq_false (by omega)] <;> rfl
    have c1 : (its.toArray.isEmpty || k == 1) = true := by
      rcases hsame with e | e
      · rw [e] at hle
        have : its = [] := List.eq_nil_of_length_eq_zero hle
        rw [this]
        rfl
      · rw [e]
        cases its <;> rfl
    refine wpAny_binaryOp_repeat_ref (T := "tuple") (U := "int") (by decide) ⟨_, ho, rfl⟩ (fun s' => typeIs_int s' k t) noFill_tuple_mul F.fills_int_mul F.slot_int_rmul repeat_tuple F.slot_int_index.lookup
      (call_meets F.slot_int_rmul (typeIs_int s k t) F.entry_int_rmul (F.args_int_rmul_2 _ _) (int_rmul_tuple k t l its.toArray n dd sl)
        ⟨ho, rfl, ⟨_, ho, rfl⟩, call_meets F.slot_tuple_mul ⟨_, ho, rfl⟩ F.entry_tuple_mul (F.args_tuple_mul_2 _ _) (tuple_mul_same l its.toArray n dd sl k t c0 c1) ⟨ho, ?_⟩⟩)
    exact ⟨.ref l, H, I, rfl, q1⟩
  · have q2 := q2 hsame
    have hne : xs ≠ [] := fun e => hsame (.inl e)
    have hk1 : k ≠ 1 := fun e => hsame (.inr e)
    by_cases hk : 2 ≤ k
    · exact op_repT pins s σ H _ _ v u Q I rx ry ⟨l, k, xs, rfl, rfl, hT, hne, hk, h2, hz, q2⟩
    · have hk0 : k = 0 := by omega
      subst hk0
      cases rx
      obtain ⟨t, rfl⟩ := ry
      obtain ⟨its, r, ⟨⟨cls, dd, data, sl⟩, ho, hc, n, hd⟩, hs⟩ := I.tuple hT
      simp only at hc hd
      subst hc hd
      have hle : its.length = xs.length := r.length.symm
      have hn : its ≠ [] := fun e => hne (by
        rw [e] at hle
        exact List.eq_nil_of_length_eq_zero hle.symm)
      have hi : its.toArray.isEmpty = false := by
        cases its with
        | nil => exact absurd rfl hn
        | cons a b => rfl
      refine wpAny_binaryOp_repeat_ref (T := "tuple") (U := "int") (by decide) ⟨_, ho, rfl⟩ (fun s' => typeIs_int s' 0 t) noFill_tuple_mul F.fills_int_mul F.slot_int_rmul repeat_tuple F.slot_int_index.lookup
        (call_meets F.slot_int_rmul (typeIs_int s 0 t) F.entry_int_rmul (F.args_int_rmul_2 _ _) (int_rmul_tuple 0 t l its.toArray n dd sl)
          ⟨ho, rfl, ⟨_, ho, rfl⟩, call_meets F.slot_tuple_mul ⟨_, ho, rfl⟩ F.entry_tuple_mul (F.args_tuple_mul_2 _ _) (tuple_mul_zero l its.toArray n dd sl 0 t (by decide) (by rw [hi]; rfl) (by rw [hi]; rfl)) ⟨ho, ?_⟩⟩)
      refine ⟨.ref s.heap.objs.size, _, I.laid (t' := s.toks) (o := .tup (List.replicate (0 : Int).toNat xs).flatten) (fun b ob q => Heap.get?_push_of_some _ q) (Nat.le_refl _) ?_, rfl, q2 _ (I.hok.fresh (Nat.le_refl _))⟩
      exact ⟨by show 0 ≤ sizeLine; decide, _, .nil, IsTup.new _ _⟩
end
end Lm

namespace Lm
open PySem L2 Evl
/-! ### own errors whose __init__ keeps one thing -/
/-- what the text says of an own error with __init__ -/
structure ErrF (K : PySem.W.Frag) (mg : Str → Option Value) (x : Str) (C fI : Addr) (fn : Str) : Prop where
  g : mg x = some (.ref C)
  T : OexC K C
  X : XfC K C
  ini : PySem.W.findIn K (.ref C) "__init__" = some (some (.ref fI))
  ty : PySem.W.typeIn K (.ref fI) = some (.type "function")
  no : PySem.W.findIn K (.ref C) fn = some none
  ic : PySem.W.isClsIn K C = true
  self : PySem.W.subIn K (.ref C) (.ref C) = some true
theorem ErrF.exm {K : PySem.W.Frag} {mg : Str → Option Value} {x : Str} {C fI : Addr} {fn : Str} (T : ErrF K mg x C fI fn) : PySem.W.exmOne K (.ref C) (.ref C) = some true := exm_self T.T.exC T.ic T.T.tyC T.self
def spErrI (C : Addr) (fn : Str) : Sp := fun vs H Q _ => ∃ (a : Addr) (v : V), vs = [.ref a, v] ∧ H a = some (exo a C none) ∧ ∀ dx, H dx = none → dx ≠ a → Q .non (upd (upd H dx (exd dx [(fn, v)])) a (exo a C (some dx)))
theorem go_mkO {C : Addr} {fn : Str} {te : TE} {σ : L2.St} {H : Hp} {Q : XK} {v : V} (h : Ev te σ H v) (k : ∀ H1 d, Ex H H1 → H1 d = none → Q (.ref C) (some d) (upd H1 d (.xd [(fn, v)]))) : tMkO C (spErrI C fn) [] (tCons te tNil) σ H Q :=
  h H (Ex.refl H) _ fun H1 e1 => ⟨by show 1 ≤ 1000; decide, fun a na => ⟨a, v, rfl, upd_same, fun dx ndx hda => ⟨rfl, dx, [(fn, v)], upd_same, by rw [upd_ne hda]; exact upd_same, by rw [upd_ne hda] at ndx; exact ndx, by
    have hn : H1 dx = none := by rw [upd_ne hda] at ndx; exact ndx
    have e : upd (del (upd (upd (upd H1 a (exo a C none)) dx (exd dx [(fn, v)])) a (exo a C (some dx))) a) dx (.xd [(fn, v)]) = upd H1 dx (.xd [(fn, v)]) := by
      funext b
      by_cases hb : b = dx
      · subst hb
        rw [upd_same, upd_same]
      · rw [upd_ne hb, upd_ne hb]
        by_cases hba : b = a
        · subst hba
          rw [del_same, na]
        · rw [del_ne hba, upd_ne hba, upd_ne hb, upd_ne hba]
    rw [e]
    exact k H1 dx e1 hn⟩⟩⟩
end Lm

namespace Lm
open PySem L2 PyProof.Rows PySem.Spec
section
variable {M : Model} {A : Around} {E : Value → Shared → Prop} {s : Shared} {K : PySem.W.Frag} {pos : Pos} {x C : Addr} {first : List Value} {Q : Value → Shared → Prop}
/-- the instance as it stands at each time -/
def InsK (K : PySem.W.Frag) (x C : Addr) (h : Heap) : Prop := ∃ ox od, K.In h ∧ PySem.W.InstAt h x ox C od ∧ ox.data = .plain
theorem callWith_ins {args : List (Bool × Sem Value)} {keywords : List (Option Str × Sem Value)} (hplain : (args.any (·.1) || keywords.any (·.1.isNone)) = false)
    (h : wpAny M A (evalArgs (.ref x) true args keywords) (fun a s₁ => InsK K x C s₁.heap ∧ wpAny M A (call (.ref x) (first ++ a.pos) a.kw) Q E s₁) E s) : wpAny M A (callWith pos (.ref x) first args keywords) Q E s := by
  unfold callWith
  refine wpAny_bind (wpAny_holding (wpAny_mono h (fun a s₁ h₁ => wpAny_bind (wpAny_standAt ?_)) fun _ _ y => y))
  obtain ⟨⟨ox, od, X, I, hd⟩, hc⟩ := h₁
  have L := PySem.W.kco_keeper (M := M) I hd
  simp only [hplain]
  refine wpAny_bind (L.here ?_)
  exact wpAny_bind (wpAny_mono (wpAny_operateT hc) (fun r s₂ hr => wpAny_bind (wpAny_holding (wpAny_point (wpAny_pure hr)))) fun _ _ y => y)
end
/-- what the text says of own __call__ -/
structure CallM (K : PySem.W.Frag) (C g : Addr) : Prop where
  at_ : PySem.W.findIn K (.ref C) "__call__" = some (some (.ref g))
  isF : PySem.W.isFn K (.ref g) = true
  fn : PySem.W.fnIn K g = true
/-- the i-th slot holds an instance, which is called -/
def tCallO (i : Nat) (C : Addr) (sp : Sp) (E : L2.St → XK) (t : TA) : TE := fun σ H Q => ∃ a, σ[i]? = some (some (.ref a)) ∧ t σ H fun vs H1 => (∃ dx fs, H1 a = some (.ins C dx fs)) ∧ sp (.ref a :: vs) H1 Q (E σ)
def tCallOk (i : Nat) (C : Addr) (n : Nat) (sp : Sp) (gV : List V → List V → List V) (E : XK) (tk : TA) : TE := fun σ H Q => ∃ a, σ[i]? = some (some (.ref a)) ∧ tk σ H fun zs H1 => (∃ dx fs, H1 a = some (.ins C dx fs)) ∧ zs.length = n ∧ sp (gV [.ref a] zs) H1 Q E
section
variable {X : Cx} {CX : CXT} {k i : Nat} {f C : Addr} {fd : FuncData} {ps ks : List Str} {sp : Sp} {x : Str} {p pos : Pos} {e : Expr} {es : List Expr} {kws : List Keyword} {t tk : TA} {g : List Value → List Value → List Value} {gV : List V → List V → List V}
theorem ins_k {pins : List (Addr × Obj)} {σ : L2.St} {H : Hp} {s : Shared} {a dx : Addr} {fs : List (Str × V)} (I : Inv X pins σ H s) (h : H a = some (.ins C dx fs)) : InsK X.K a C s.heap := by
  obtain ⟨mA, O, r, _, _, _⟩ := ins_get I.hok h
  obtain ⟨od, hI, _⟩ := O.look
  exact ⟨_, _, I.kIn, hI, rfl⟩
theorem pe_callO {E : L2.St → XK} (F : FnOk X.prog X.w X.K X.mg X.base CX k f fd ps sp) (hm : CallM X.K C f) (hr : Room k X.A) (hb : Binds X.K fd ps []) (hx : ∀ σ, PassesAt CX X σ (E σ)) (hN : X.N[i]? = some x) (hv : Vis X.env.scope x) (ha : PA X (e :: es) t)
    (hdb : (x == ("__debug__" : Str)) = false := by decide) (hcd : (x == ("__classdict__" : Str)) = false := by decide)
    (he : starEach (e :: es) X.env = (false, eval e X.env) :: starEach es X.env := by rfl) (hpl : (backTo pos (starEach es X.env)).any (·.1) = false := by rfl) : PE X (.Call (.Name x p) (e :: es) [] pos) (tCallO i C sp E t) := by
  refine ⟨fun pins s σ H Q I h => ?_⟩
  obtain ⟨a, hs, ht⟩ := h
  refine wpAny_Call_Name_kw (thn ((pe_var (pos := p) hN hv hdb hcd).run pins s σ H (fun v H1 => v = .ref a ∧ H1 = H) I ⟨.ref a, hs, rfl, rfl⟩) fun u s1 ⟨v, H1, I1, r1, q1⟩ => ?_)
  obtain ⟨rfl, rfl⟩ := q1
  cases r1
  rw [he]
  refine callWith_ins (K := X.K) (C := C) (by show ((false || (backTo pos (starEach es X.env)).any (·.1)) || false) = false; rw [hpl]; rfl) (PySem.Calls.evalArgs_plain ?_)
  have := ha.run pos pins s1 σ _ _ I1 ht
  rw [he] at this
  refine thn this fun us s2 ⟨vs, H2, I2, r, hi, q⟩ => ?_
  obtain ⟨dx, fs, hi⟩ := hi
  refine ⟨ins_k I2 hi, ?_⟩
  obtain ⟨ox, od, X1, J, hd⟩ := ins_k I2 hi
  have r2 : Vals (V.ref a :: vs) (Value.ref a :: us) := .cons rfl r
  have hl : (Value.ref a :: us ++ []).length = ps.length := by rw [List.append_nil, ← r2.length]; exact F.len _ _ _ _ q
  refine wpAny_call (PySem.W.kco_code X1 J hd hm.at_ hm.isF hm.fn ?_)
  refine codeAny_mono (F.run X.A X.stack s2 H2 ⟨Value.ref a :: us, []⟩ (Value.ref a :: us) (V.ref a :: vs) Q (E σ) hr I2.env0 (by have := hb s2 (Value.ref a :: us) I2.kIn hl; rw [List.append_nil] at this; exact this) r2 q) fun r s' hq => ?_
  cases r with
  | error e => exact hx σ pins H2 s2 e s' I2 hq
  | ok fl =>
    cases fl with
    | ret u => exact I2.after hq
    | next => exact False.elim hq
    | brk => exact False.elim hq
    | cont => exact False.elim hq
theorem pe_callOk {E : XK} (F : FnOk X.prog X.w X.K X.mg X.base CX k f fd ps sp) (hm : CallM X.K C f) (hr : Room k X.A) (hb : KBn X.K fd ps 1 ks g gV) (hx : Passes CX X E) (hN : X.N[i]? = some x) (hv : Vis X.env.scope x) (hkw : PK X kws tk)
    (hdb : (x == ("__debug__" : Str)) = false := by decide) (hcd : (x == ("__classdict__" : Str)) = false := by decide)
    (hall : (backToKw pos (keywordEach kws X.env)).all (·.1.isSome) = true := by rfl) (hks : (backToKw pos (keywordEach kws X.env)).filterMap (·.1) = ks := by rfl)
    (hpl : ((backTo pos (starEach [] X.env)).any (·.1) || (backToKw pos (keywordEach kws X.env)).any (·.1.isNone)) = false := by rfl) : PE X (.Call (.Name x p) [] kws pos) (tCallOk i C ks.length sp gV E tk) := by
  refine ⟨fun pins s σ H Q I h => ?_⟩
  obtain ⟨a, hs, ht⟩ := h
  refine wpAny_Call_Name_kw (thn ((pe_var (pos := p) hN hv hdb hcd).run pins s σ H (fun v H1 => v = .ref a ∧ H1 = H) I ⟨.ref a, hs, rfl, rfl⟩) fun u s1 ⟨v, H1, I1, r1, q1⟩ => ?_)
  obtain ⟨rfl, rfl⟩ := q1
  cases r1
  refine callWith_ins (K := X.K) (C := C) hpl (evalArgs_kw2_nil hall ?_)
  refine thn (hkw.run pos pins s1 σ _ _ I1 ht) fun ws s2 ⟨zs, H2, I2, rz, hi, l2, q⟩ => ?_
  obtain ⟨dx, fs, hi⟩ := hi
  rw [hks]
  refine ⟨ins_k I2 hi, ?_⟩
  obtain ⟨ox, od, X1, J, hd⟩ := ins_k I2 hi
  have r2 := hb.rel (vs := [V.ref a]) (us := [Value.ref a]) (.cons rfl .nil) rz
  show wpAny _ _ (call (.ref a) [] (ks.zip ws)) _ _ _
  refine wpAny_call (PySem.W.kco_code X1 J hd hm.at_ hm.isF hm.fn ?_)
  refine codeAny_mono (F.run X.A X.stack s2 H2 ⟨[.ref a], ks.zip ws⟩ (g [.ref a] ws) (gV [.ref a] zs) Q E hr I2.env0 (hb.to s2 [.ref a] ws I2.kIn rfl (rz.length.symm.trans l2)) r2 q) fun r s' hq => ?_
  cases r with
  | error e => exact hx pins σ H2 s2 e s' I2 hq
  | ok fl =>
    cases fl with
    | ret u => exact I2.after hq
    | next => exact False.elim hq
    | brk => exact False.elim hq
    | cont => exact False.elim hq
end
end Lm

namespace Lm
open PySem L2 LamX PySem.Spec PyProof.Rows
/-! ### a lambda handed to a def that handles its errors: what is wished of an error may speak of the def's own slots -/
section
variable {X : Cx} {pins : List (Addr × Obj)} {σ : L2.St} {H : Hp} {s : Shared}
theorem pe_actS {CXg : CXT} {Eg : XK} {Ng : List Str} {qg : Str} {sg : Scope} {g f c' : Addr} {cdg pm ctv : Value} {params : Arguments} {body : Expr} {scope : Scope} {k i : Nat} {a : Str} {pn : List (Addr × Obj)} {xe : Value → Shared → Prop} {W : WX} {tb : XK → TE} {p1 p2 : Pos}
    (I : Inv X pins σ H s) (L : LamS X.env.scope scope) (hf : s.heap.get? f = some (PySem.W.kla_obj "<lambda>" (X.env.qual ++ "<lambda>") params body scope (cloFrom X.env.cells scope.names []) pm c' ctv)) (hfn : H f = none) (hfr : f ∉ frs X.stack)
    (hbind : bindArgs (PySem.W.kla_fn "<lambda>" (X.env.qual ++ "<lambda>") params body scope (cloFrom X.env.cells scope.names []) pm (.ref c') ctv) ⟨[], []⟩ = pure [])
    (tk : Takes ((cxOf CXg X.prog X.w X.K X.mg X.base Ng qg sg g cdg X.A X.stack s H Eg).tr pn xe) W) (hr : Room (k + 1) (X.A.deeper (envOfC qg sg s.heap.objs.size g cdg)))
    (hbody : ∀ (E : XK) (A : Around) (outer : List Env) (s : Shared) (H : Hp), Room k (A.deeper (lamEnv X scope s.heap.objs.size f c')) → PE (lamCx X A outer s H E scope f c') body (tb E))
    (hN : Ng[i]? = some a) (hv : Vis sg a) (hd : (a == ("__debug__" : Str)) = false := by decide) (hcd : (a == ("__classdict__" : Str)) = false := by decide) :
    PE ((cxOf CXg X.prog X.w X.K X.mg X.base Ng qg sg g cdg X.A X.stack s H Eg).tr pn xe) (.Call (.Name a p1) [] [] p2)
      (fun σZ HZ Q => σZ[i]? = some (some (.ref f)) ∧ HZ c' = some (CodeO c' (X.env.qual ++ "<lambda>")) ∧ tb (WE W σZ) σ HZ Q) := by
  refine ⟨fun pinsZ sZ σZ HZ Q IZ h => ?_⟩
  obtain ⟨hs, hc, ht⟩ := h
  refine wpAny_Call_Name_kw (thn ((pe_var (pos := p1) (i := i) hN hv hd hcd).run pinsZ sZ σZ HZ (fun v H1 => v = .ref f ∧ H1 = HZ) IZ ⟨.ref f, hs, rfl, rfl⟩) fun u s1 ⟨v, H1, I1, r1, q1⟩ => ?_)
  obtain ⟨ev, eH⟩ := q1
  subst ev
  rw [eH] at I1
  obtain rfl : u = Value.ref f := r1
  have of1 := I1.base.keep f _ hf hfn hfr (fun z => nomatch (show f ∈ ([] : List Addr) from z))
  refine PySem.W.callWith_F0 ⟨_, _, _, _, of1⟩ ?_
  have un : Un (frs X.stack) [] H HZ s.heap s1.heap := I1.base
  obtain ⟨⟨oc, vs, t, hoc, hdc, hvc⟩, _, _⟩ := I1.hok c' _ hc
  have rc : codeAny (model X.prog X.w) (X.A.deeper (envOfC qg sg s.heap.objs.size g cdg)) (.call (.ref f) ⟨[], []⟩) (CR (L2.CX X.prog X.w) (envOfC qg sg s.heap.objs.size g cdg :: X.stack) X.prog X.w HZ s1 Q (WE W σZ)) s1 := by
    refine PySem.W.kla_callFunE hr.depth of1 rfl L.co L.gen rfl ⟨c', oc, vs, t, rfl, hoc, hdc, hvc⟩ ?_
    rw [hbind]
    refine wpAny_pure (wpAny_newFunctionEnv (fun y hy => (L.own y hy).2) (fun y hy => absurd hy (by simp)) (fun h₁ hns hsb => ⟨I1.nolimit.fresh _ hsb, ?_⟩) L.kind)
    show codeAny _ _ (.expr body (lamEnv X scope s1.heap.objs.size f c')) _ _
    have kp : ∀ b o, s1.heap.get? b = some o → h₁.get? b = some o := fun b o e => hsb.extBut b o (Nat.ne_of_lt (Heap.lt_size e)) (Heap.get?_push_of_some _ e)
    have J : Inv (lamCx X (X.A.deeper (envOfC qg sg s.heap.objs.size g cdg)) (envOfC qg sg s.heap.objs.size g cdg :: X.stack) s1 HZ (WE W σZ) scope f c') [] σ HZ { s1 with heap := h₁, toks := s1.toks + ([] : List (Str × Value)).length } :=
      lam_start2 I L I1.env0 hr.hd un hns kp
    refine PySem.W.kla_codeExpr (wpAny_mono ((hbody _ _ _ s1 HZ (hr.deeper _)).run [] _ _ HZ Q J ht) (fun v s' hq => ?_) fun e s' hq => hq)
    obtain ⟨w', H', J', rv, q⟩ := hq
    exact ⟨w', H', J'.os, J'.bare, J'.base, J'.hok, rv, q⟩
  have hx : PassesAt (L2.CX X.prog X.w) ((cxOf CXg X.prog X.w X.K X.mg X.base Ng qg sg g cdg X.A X.stack s H Eg).tr pn xe) σZ (WE W σZ) := passAt tk σZ
  refine wpAny_call (codeAny_mono rc fun r s' hq => ?_)
  cases r with
  | error e => exact hx pinsZ HZ s1 e s' I1 hq
  | ok fl =>
    cases fl with
    | ret u => exact I1.after hq
    | next => exact False.elim hq
    | brk => exact False.elim hq
    | cont => exact False.elim hq
/-- the def that calls what it got, and handles its errors with its own slots at hand -/
def GivesToS (X : Cx) (Ng : List Str) (x : Str) (sg : Scope) (g : Addr) (cdg : Value) (bg : List Stmt) (a : Str) (q : Str) (k : Nat) (TT : (XK → Hp → VK → Prop) → Hp → VK → Prop) : Prop :=
  ∀ (f c' : Addr) (s : Shared) (H : Hp) (Q : VK) (tl : XK → Hp → VK → Prop), Room (k + 1) (X.A.deeper (envOfC x sg s.heap.objs.size g cdg)) →
    (∀ (W : WX) (pn : List (Addr × Obj)) (xe : Value → Shared → Prop) (p1 p2 : Pos), Takes ((cxOf C8.CX0 X.prog X.w X.K X.mg X.base Ng x sg g cdg X.A X.stack s H C8.E0).tr pn xe) W →
      PE ((cxOf C8.CX0 X.prog X.w X.K X.mg X.base Ng x sg g cdg X.A X.stack s H C8.E0).tr pn xe) (.Call (.Name a p1) [] [] p2) (fun σZ HZ Q => σZ[0]? = some (some (.ref f)) ∧ HZ c' = some (CodeO c' q) ∧ tl (WE W σZ) HZ Q)) →
    H c' = some (CodeO c' q) → TT tl H Q →
    ∃ t, PSs (cxOf C8.CX0 X.prog X.w X.K X.mg X.base Ng x sg g cdg X.A X.stack s H C8.E0).nox bg t ∧ t { nx := fun _ H' => Q .non H', rt := Q } (L2.start Ng [.ref f]) H
theorem pe_lamcallS {T : List (Addr × Str)} {TT : (XK → Hp → VK → Prop) → Hp → VK → Prop} {x a : Str} {g c P : Addr} {k : Nat} {pg : Arguments} {bg : List Stmt} {sg : Scope} {dV kV doc pm cdv ct oc : Value} {an od : Option Addr} {osl : Array (Option Value)} {Ng : List Str}
    {params : Arguments} {body : Expr} {scope : Scope} {t : XK → TE} {p lpos pos : Pos} (hg : Gl X x) (hm : X.mg x = some (.ref g)) (hk : PySem.W.keepIn X.K (.ref g) = true)
    (lk : X.K.lookup g = some ⟨oc, od, .func (PySem.W.fnOf x x pg bg sg dV kV doc pm an cdv ct), osl⟩) (hcg : PySem.W.codeIn X.K cdv x = true) (hb : L2.Binds X.K (PySem.W.fnOf x x pg bg sg dV kV doc pm an cdv ct) [a] []) (Sg : FnScope Ng [a] sg) (hNg : Ng[0]? = some a) (hva : Vis sg a)
    (hG : GivesToS X Ng x sg g cdv bg a (X.env.qual ++ "<lambda>") k TT)
    (TB : TabB X.base X.mg c P) (hcode : X.env.code = .ref c) (hmT : (P, X.env.qual ++ "<lambda>") ∈ T) (hu : ∀ p ∈ T, p.1 = P → p.2 = X.env.qual ++ "<lambda>") (hr : Room (k + 2) X.A) (L : LamS X.env.scope scope) (hdef : defaultsOf params X.env = ([], []))
    (hbind : ∀ (q : Str) (cl : List (Str × Addr)) (pm cv ctv : Value), bindArgs (PySem.W.kla_fn "<lambda>" q params body scope cl pm cv ctv) ⟨[], []⟩ = pure [])
    (hbody : ∀ (A : Around) (outer : List Env) (s : Shared) (H : Hp) (E : XK) (f c' : Addr), Room k (A.deeper (lamEnv X scope s.heap.objs.size f c')) → PE (lamCx X A outer s H E scope f c') body (t E))
    (hdb : (x == ("__debug__" : Str)) = false := by decide) (hd : (a == ("__debug__" : Str)) = false := by decide) (hcd : (a == ("__classdict__" : Str)) = false := by decide) :
    PE X (.Call (.Name x p) [.Lambda params body scope lpos] [] pos) (tLam T TT t) := by
  refine ⟨fun pins s σ H Q I h => ?_⟩
  obtain ⟨hT, h⟩ := h
  refine wpAny_Call_Name_kw (ld_glob I hg hm ?_ hdb)
  refine PySem.W.callWith_K (h₀ := X.base) I.ok.mod.kin hk ?_ (by rfl) (by rfl)
  show wpAny _ _ (spliced ((false, eval (.Lambda params body scope lpos) X.env) :: backTo pos (starEach [] X.env))) _ _ s
  refine Calls.spliced_cons (lam_make2 I TB hcode hmT hu hT hdef (L.has I.ok) fun f c' pm' ctv H1 s' I1 eN T1 hf hfn hfr hco => ?_)
  refine Calls.spliced_nil ⟨I1.kIn, ?_⟩
  have rc : codeAny (model X.prog X.w) X.A (.call (.ref g) ⟨[.ref f], []⟩) (CR C8.CX0 X.stack X.prog X.w H1 s' Q C8.E0) s' := by
    refine run_ofS (N := Ng) (ps := [a]) (us := [.ref f]) (vs := [.ref f]) lk hcg Sg hr I1.env0 (hb s' [.ref f] I1.kIn rfl) (.cons rfl .nil) rfl fun hr' => ?_
    obtain ⟨t', ht', hq'⟩ := hG f c' s' H1 Q (fun E H' Q' => t E σ H' Q') hr' (fun W pn xe p1 p2 tk => pe_actS (i := 0) I1 L hf hfn hfr (hbind _ _ _ _ _) tk hr' (fun E A outer s H hr2 => hbody A outer s H E f c' hr2) hNg hva hd hcd) hco (h H1 eN T1)
    exact ⟨t', ht'.nox, hq'⟩
  refine wpAny_call (codeAny_mono rc fun r s2 hq => ?_)
  cases r with
  | error e => exact (show False from hq).elim
  | ok fl =>
    cases fl with
    | ret u => exact I1.after hq
    | next => exact False.elim hq
    | brk => exact False.elim hq
    | cont => exact False.elim hq
end
end Lm

namespace Lm
open PySem L2 LamX PySem.Spec PyProof.Rows
section
variable {X : Cx} {A : Around} {outer : List Env} {s : Shared} {H : Hp} {E : XK} {scope : Scope} {f c' : Addr} {k : Nat} {C g : Addr} {fd : FuncData} {ps : List Str} {sp : Sp} {m : Str}
/-- in a lambda's body: what a call raises is the lambda's -/
theorem lam_passes : Passes (L2.CX X.prog X.w) (lamCx X A outer s H E scope f c') E := passes_call (takes_of rfl rfl rfl rfl) fun _ _ _ _ h => h
theorem MetOkX.binL {op : Operator} (D : MetOkX X.prog X.w X.K X.mg X.base k C (PySem.dunder op.info.2) g fd ps sp) (hc : PySem.W.selfFirst X.K C = true) (hr : Room k (lamCx X A outer s H E scope f c').A) : OpR (lamCx X A outer s H E scope f c') (binaryOp op) (rBinOwn C sp E) :=
  op_binOwn (X := lamCx X A outer s H E scope f c') D.ok hc D.mt.at_ D.mt.fn D.bd hr lam_passes
theorem MetOkX.leL (D : MetOkX X.prog X.w X.K X.mg X.base k C "__le__" g fd ps sp) (hr : Room k (lamCx X A outer s H E scope f c').A) : OpR (lamCx X A outer s H E scope f c') (compareOp .LtE) (rBinOwn C sp E) :=
  op_cmpOwn (X := lamCx X A outer s H E scope f c') (fun _ _ => rfl) D.ok D.mt.at_ D.mt.fn D.bd hr lam_passes
theorem MetOkX.ltL (D : MetOkX X.prog X.w X.K X.mg X.base k C "__lt__" g fd ps sp) (hr : Room k (lamCx X A outer s H E scope f c').A) : OpR (lamCx X A outer s H E scope f c') (compareOp .Lt) (rBinOwn C sp E) :=
  op_cmpOwn (X := lamCx X A outer s H E scope f c') (fun _ _ => rfl) D.ok D.mt.at_ D.mt.fn D.bd hr lam_passes
end
/-- a def whose code object is known: what it makes (lambdas) is noted in that object's table -/
theorem okC {P : Program} {w : World} {K : PySem.W.Frag} {mg : Str → Option Value} {base : Heap} {x qual : Str} {st : Stmt} {f c : Addr} {fd : FuncData} {N ps : List Str} {k : Nat} {sp : Sp} (F : L2.Fun K x qual st f fd) (hc : fd.code = Value.ref c) (S : FnScope N ps (defScope st)) (len : ∀ vs H Q E, sp vs H Q E → vs.length = ps.length)
    (hbody : ∀ (A : Around) (outer : List Env) (s : Shared) (H : Hp) (vs : List V) (Q : VK) (E : XK), Room k (A.deeper (envOfC qual (defScope st) s.heap.objs.size f (.ref c))) → sp vs H Q E →
      ∃ t, PSs (cxOf CX0 P w K mg base N qual (defScope st) f (.ref c) A outer s H E).nox (defBody st) t ∧ t { nx := fun _ H' => Q .non H', rt := Q } (L2.start N vs) H) : FnOk P w K mg base CX0 (k + 1) f fd ps sp := by
  obtain ⟨oc, od, kV, doc, pm, an, cdv, ct, osl, rfl, lk, hcd⟩ := F.ex
  have e : cdv = .ref c := hc
  subst e
  refine fn_of lk hcd S len fun A outer s H vs Q E hr hsp => ?_
  obtain ⟨t, h, q⟩ := hbody A outer s H vs Q E hr hsp
  exact ⟨t, h.nox, q⟩
end Lm

namespace Lm
open PySem L2 PySem.Spec PyProof.Rows
/-! ### several except clauses, each with a name or without -/
abbrev Clause := Value × Option Nat × (Addr → Value → Option Addr → TS)
/-- behind a clause its name is gone -/
def offEnds : Option Nat → Ends → Ends
  | none, D => D
  | some i, D => ⟨fun τ G => D.nx (τ.set i none) G, D.rt, fun τ G => D.bk (τ.set i none) G, fun τ G => D.ct (τ.set i none) G⟩
/-- in it the name holds the error -/
def onSt : Option Nat → Addr → L2.St → L2.St
  | none, _, τ => τ
  | some i, a, τ => τ.set i (some (.ref a))
def wClauses (K : PySem.W.Frag) (Wo : WX) (D : Ends) : List Clause → WX
  | [] => Wo
  | (c, o, ts) :: r => fun cls d τ G => ∃ b, PySem.W.exmOne K cls c = some b ∧ (b = true → ∀ a, G a = none → ts a cls d (offEnds o D) (onSt o a τ) G) ∧ (b = false → wClauses K Wo D r cls d τ G)
/-- a clause's name, its slot -/
def NmOk (X : Cx) : Option Str → Option Nat → Prop
  | none, none => True
  | some n, some i => X.N[i]? = some n ∧ X.env.kindOf n = some .local
  | _, _ => False
inductive Clauses (X : Cx) : List ExceptHandler → List Clause → Prop
  | nil : Clauses X [] []
  | cons {x : Str} {n : Option Str} {o : Option Nat} {c : Value} {ts : Addr → Value → Option Addr → TS} {st : Stmt} {sts : List Stmt} {p1 p2 : Pos} {hs : List ExceptHandler} {l : List Clause} (hx : Names X x c) (hn : NmOk X n o)
      (hb : ∀ (a : Addr) (ob : Obj) (cls : Value) (d : Option Addr) (pn : List (Addr × Obj)), Zc cls d ob → (∃ vs, ob.data = .fields vs) → PSs (X.suite a ((a, ob) :: pn)) (st :: sts) (ts a cls d)) (r : Clauses X hs l) :
      Clauses X (.ExceptHandler (some (.Name x p1)) n (st :: sts) p2 :: hs) ((c, o, ts) :: l)
section
variable {X : Cx} {blk : List Stmt} {h1 : ExceptHandler} {hr : List ExceptHandler} {cl : List Clause} {p : Pos} {tb : WX → TS} {Wo : WX}
theorem ps_clauses (e1 : X.stack = X.env :: X.outer) (e2 : X.env.frame = some X.env.locals) (nd : X.N.Nodup) (tk : Takes X Wo)
    (hbl : ∀ (W : WX) (pn : List (Addr × Obj)) (xe : Value → Shared → Prop), Takes (X.tr pn xe) W → PassesOwn (model X.prog X.w) X.A X.env xe → PSs (X.tr pn xe) blk (tb W)) (hcl : Clauses X (h1 :: hr) cl) :
    PS X (.Try blk (h1 :: hr) [] [] p) (fun D τ G => tb (wClauses X.K Wo D cl) D τ G) := by
  refine ⟨fun pins s τ G D J wish => ?_⟩
  have wf := J.ok
  have efr : X.A.frames = some (X.env :: X.outer) := wf.frames.trans (congrArg some e1)
  have go := (hbl (wClauses X.K Wo D cl) (X.pn ++ pins) (fun e z => wpAny (model X.prog X.w) X.A (noteFrame e X.env) (fun _ z2 => wpAny (model X.prog X.w) X.A (setFlight e none) (fun _ z3 =>
    wpAny (model X.prog X.w) X.A (handleBy e X.env (h1 :: hr)) (SP X pins D) X.xe z3) X.xe z2) X.xe z) ?caught PassesOwn.looking).run [] s τ G D (J.toTry _) wish
  case caught =>
    intro u z ht
    obtain ⟨er, fr, z0, pz, τ1, G1, cls, d, rfl, Jt, notBare, upw, hsky, fresh, eos, eag, wsh⟩ := ht
    have Ji := Jt.ofTry wf
    show wpAny (model X.prog X.w) X.A (noteFrame (.ref er) X.env) _ _ _
    refine Sky.land Zc.steady efr e2 (e1 ▸ hsky) fun g3 land3 up3 => ?_
    have J3 : Inv X pins τ1 G1 { z with heap := g3 } := Ji.landed notBare land3.1 (upw.trans up3) eos eag
    obtain ⟨ob3, fs3, get3, zc3, dat3⟩ := land3.there
    have off : er ∉ frs (X.env :: X.outer) := fun hm => by
      obtain ⟨_, ob', get', nofs⟩ := land3.2.2.1.mem hm
      rw [get3] at get'
      cases get'
      exact nofs _ dat3
    have offL : er ≠ X.env.locals := fun eq => off (List.mem_filterMap.mpr ⟨X.env, List.mem_cons_self, eq ▸ e2⟩)
    have offF : er ∉ X.fs := fun hm => by
      obtain ⟨en, hen, q⟩ := List.mem_filterMap.mp hm
      exact off (List.mem_filterMap.mpr ⟨en, List.mem_cons_of_mem _ hen, q⟩)
    have Sx := J3.suite get3 dat3 fresh offL offF
    have each : ∀ {hs : List ExceptHandler} {l : List Clause}, Clauses X hs l → wClauses X.K Wo D l cls d τ1 G1 → wpAny (model X.prog X.w) X.A (handleBy (.ref er) X.env hs) (SP X pins D) X.xe { z with heap := g3 } := by
      intro hs l hl
      induction hl with
      | nil =>
        intro out
        refine wpAny_handleBy_nil ?_
        obtain ⟨_, _, _, obx, vsx, Tx, _, _, getx, _, datx, slot, _⟩ := id land3
        unfold PySem.passOn
        refine wpAny_bind (wpAny_field getx datx slot ?_)
        rw [if_neg (show ¬ ((Value.ref Tx == Value.none) = true) by simp)]
        have leave : wpAny (model X.prog X.w) X.A (setFlight (.ref er) X.env.frame) (fun _ z4 => wpAny (model X.prog X.w) X.A (throw (.ref er) : Sem Flow) (SP X pins D) X.xe z4) X.xe { z with heap := g3 } := by
          rw [e2]
          exact HandSPX.setFlight_upZ land3 fun g4 hot4 up4 => wpAny_throw (tk _ _ ⟨er, fr, z0, pins, τ1, G1, cls, d, rfl, Ji, notBare, (upw.trans up3).trans up4, Or.inr (Or.inr (by rw [e1]; exact hot4)), fresh, eos, eag, out⟩)
        first
          | exact wpAny_bind leave
          | exact wpAny_bind (wpAny_pure (wpAny_bind leave))
      | @cons x n o c ts st sts q1 q2 hs2 l2 hx hn hbd rest ih =>
        intro out
        obtain ⟨b, fits, yes, no⟩ := out
        refine wpAny_handleBy_cons (codeAny_handlers_test ?_) (fun q => by cases q)
        have look : PySem.W.Looks (model X.prog X.w) g3 (typeOf (.ref er)) cls := fun A Q E s k q => wpAny_typeOf_ref (k _ _ get3) (zc3.1.symm ▸ q)
        have match_ := PySem.W.exm_one (M := model X.prog X.w) J3.kIn look fits
        have named : ∀ {Q E : Value → Shared → Prop}, Q c { z with heap := g3 } → wpAny (model X.prog X.w) (X.A.mark (some (.ref er))) (eval (.Name x q1) X.env) Q E { z with heap := g3 } := fun {Q E} q => by
          obtain ⟨k1, k2, m1 | ⟨m1, m2, m3⟩⟩ := hx
          · exact ld_glob (X := X.suite er ((er, ob3) :: (X.pn ++ pins))) Sx k1 m1 q k2
          · exact ld_blt (X := X.suite er ((er, ob3) :: (X.pn ++ pins))) Sx k1 m1 m2 q m3 k2
        refine named (match_.here ?_)
        cases b with
        | false =>
          show wpAny _ X.A (handleBy (.ref er) X.env hs2) _ _ _
          exact ih (no rfl)
        | true =>
          match n, o, hn, yes rfl er fresh with
          | none, none, _, w1 =>
            refine codeAny_handlers_suite (HandSPX.lands_againZ land3 fun g4 land4 up4 => ?_)
            have J4 : Inv X pins τ1 G1 { z with heap := g4 } := Ji.landed notBare land4.1 ((upw.trans up3).trans up4) eos eag
            obtain ⟨ob4, fs4, get4, zc4, dat4⟩ := land4.there
            have S4 := J4.suite get4 dat4 fresh offL offF
            refine wpAny_mono ((hbd er ob4 cls d (X.pn ++ pins) zc4 ⟨_, dat4⟩).run [] _ _ G1 _ S4 w1) (fun f z6 fin => ?_) (fun _ _ bad => bad.elim)
            match f, fin with
            | .next, ⟨_, _, S6, q⟩ => exact ⟨_, _, S6.unsuite wf, q⟩
            | .brk, ⟨_, _, S6, q⟩ => exact ⟨_, _, S6.unsuite wf, q⟩
            | .cont, ⟨_, _, S6, q⟩ => exact ⟨_, _, S6.unsuite wf, q⟩
            | .ret u, ⟨_, _, _, S6, r6, q⟩ => exact ⟨_, _, _, S6.unsuite wf, r6, q⟩
          | some nm, some i, ⟨ni, nl⟩, w1 =>
            refine codeAny_handlers_suite_as (HandSPX.lands_againZ land3 fun g4 land4 up4 => ?_)
            have J4 : Inv X pins τ1 G1 { z with heap := g4 } := Ji.landed notBare land4.1 ((upw.trans up3).trans up4) eos eag
            obtain ⟨ob4, fs4, get4, zc4, dat4⟩ := land4.there
            have S4 := J4.suite get4 dat4 fresh offL offF
            refine store_ok (X := X.suite er ((er, ob4) :: (X.pn ++ pins))) (v := .ref er) S4 nd ni (.inl nl) rfl (fun z5 S5 => ?_) (.inr nl)
            refine wpAny_mono ((hbd er ob4 cls d (X.pn ++ pins) zc4 ⟨_, dat4⟩).run [] z5 _ G1 _ S5 w1) (fun f z6 fin => ?_) (fun _ _ bad => bad.elim)
            have drop : ∀ {τ6 : L2.St} {G6 : Hp} {Q : Shared → Prop}, Inv (X.suite er ((er, ob4) :: (X.pn ++ pins))) [] τ6 G6 z6 → (∀ z7, Inv X pins (τ6.set i none) G6 z7 → Q z7) →
                wpAny (model X.prog X.w) X.A (do bindName X.env nm .none; unbindBehindTheSuite X.env nm q2) (fun _ z7 => Q z7) X.xe z6 := fun S6 hq => gone_ok (S6.unsuite wf) nd ni nl hq
            match f, fin with
            | .next, ⟨_, _, S6, q⟩ => exact drop S6 fun _ J7 => ⟨_, _, J7, q⟩
            | .brk, ⟨_, _, S6, q⟩ => exact drop S6 fun _ J7 => ⟨_, _, J7, q⟩
            | .cont, ⟨_, _, S6, q⟩ => exact drop S6 fun _ J7 => ⟨_, _, J7, q⟩
            | .ret u, ⟨_, _, _, S6, r6, q⟩ => exact drop S6 fun _ J7 => ⟨_, _, _, J7, r6, q⟩
    exact each hcl wsh
  refine wpAny_Try_except (wpAny_mono go (fun f z fin => ?_) fun _ _ q => q)
  match f, fin with
  | .next, ⟨_, _, J1, q⟩ => exact wpAny_execs_nil ⟨_, _, J1.ofTry wf, q⟩
  | .brk, ⟨_, _, J1, q⟩ => exact ⟨_, _, J1.ofTry wf, q⟩
  | .cont, ⟨_, _, J1, q⟩ => exact ⟨_, _, J1.ofTry wf, q⟩
  | .ret u, ⟨_, _, _, J1, r1, q⟩ => exact ⟨_, _, _, J1.ofTry wf, r1, q⟩
end
end Lm

namespace Lm
open PySem L2 LamX PySem.Spec PyProof.Rows
theorem exm_at {K : PySem.W.Frag} {S C : Addr} {b : Bool} (h1 : PySem.W.subIn K (.ref C) (.type "BaseException") = some true) (h2 : PySem.W.isClsIn K C = true) (h3 : PySem.W.typeIn K (.ref C) = some (.type "type")) (h4 : PySem.W.subIn K (.ref S) (.ref C) = some b) :
    PySem.W.exmOne K (.ref S) (.ref C) = some b := by
  have e1 : (PySem.W.subIn K (.ref C) (.type "BaseException") == some true) = true := by rw [h1] <;> rfl
  have e2 : ((PySem.W.clsIn K C).isSome && PySem.W.typeIn K (.ref C) == some (.type "type")) = true := by
    have h2' : (PySem.W.clsIn K C).isSome = true := h2
    rw [h2', h3] <;> rfl
  show (if (PySem.W.subIn K (.ref C) (.type "BaseException") == some true) = true then (if ((PySem.W.clsIn K C).isSome && PySem.W.typeIn K (.ref C) == some (.type "type")) = true then PySem.W.subIn K (.ref S) (.ref C) else none) else none) = some b
  rw [if_pos e1, if_pos e2]
  exact h4
/-- an error with one field, as it is raised -/
def ErrAt (C : Addr) (fn : Str) (cls : Value) (d : Option Addr) (H : Hp) (v : V) : Prop := cls = .ref C ∧ ∃ dd fs, d = some dd ∧ H dd = some (.xd fs) ∧ fs.lookup fn = some v
/-- what is made of an error by a clause with a field, and by one without -/
def ClF (C : Addr) (fn tag : Str) (Q : VK) : XK := fun cls d H => ∃ v, ErrAt C fn cls d H v ∧ ∀ p, H p = none → Q (.ref p) (upd H p (.tup [.str tag, v]))
def ClO (C : Addr) (tag : Str) (Q : VK) : XK := fun cls d H => cls = .ref C ∧ ∀ p, H p = none → Q (.ref p) (upd H p (.tup [.str tag]))
def Cl2 (A B : VK → XK) : VK → XK := fun Q cls d H => A Q cls d H ∨ B Q cls d H
/-- found = ("odd",); try: found = (tag, ask()) / except .. -/
def TTtr (Cl : VK → XK) (post : V → Hp → VK → Prop) : (XK → Hp → VK → Prop) → Hp → VK → Prop := fun tl H Q => ∀ p0, H p0 = none → ∀ (E : XK) (R : VK), (∀ cls d H', Cl Q cls d H' → E cls d H') → (∀ v H', post v H' Q → R v H') → tl E (upd H p0 (.tup [.str "odd"])) R
/-- (tag, v) is told -/
def pTold (tag : Str) : V → Hp → VK → Prop := fun v H Q => ∀ p, H p = none → Q (.ref p) (upd H p (.tup [.str tag, v]))
section
variable {X : Cx} {k : Nat} {f C : Addr} {fd : FuncData} {ps : List Str} {sp : Sp} {E : XK} {x m : Str} {p pos apos : Pos} {e o : Expr} {es : List Expr} {ta : TE} {t : TA}
theorem pe_mXc {pl : Sem Bool} (D : MetOkX X.prog X.w X.K X.mg X.base k C m f fd ps sp) (hr : Room k X.A) (hx : Passes (L2.CX X.prog X.w) X E) (he : PE X o ta) (ha : PA X (e :: es) t)
    (hst : starEach (e :: es) X.env = (false, eval e X.env) :: starEach es X.env := by rfl) (hpl : (backTo pos (starEach es X.env)).any (·.1) = false := by rfl)
    (ht : eval (.Call (.Attribute o m apos) (e :: es) [] pos) X.env = (do
      let ov ← eval o X.env
      standAt apos.atName
      let (f, first) ← holding [ov] (getMethod ov m pl)
      callWith pos f first (backTo pos (starEach (e :: es) X.env)) (backToKw pos (keywordEach [] X.env))) := by rfl) :
    PE X (.Call (.Attribute o m apos) (e :: es) [] pos) (tMeth C m sp [] E ta t) := pe_meth (pl := pl) he D.cl D.mt D.ok hr D.bd .nil hx ha hst hpl ht
end
section
variable {X : Cx} {A : Around} {outer : List Env} {s : Shared} {H : Hp} {E : XK} {scope : Scope} {f c' : Addr} {k : Nat} {C g : Addr} {fd : FuncData} {ps : List Str} {sp : Sp} {m x : Str} {p pos apos : Pos} {e o : Expr} {es : List Expr} {ta : TE} {t : TA}
theorem pe_mL {pl : Sem Bool} (D : MetOkX X.prog X.w X.K X.mg X.base k C m g fd ps sp) (hr : Room k (lamCx X A outer s H E scope f c').A) (he : PE (lamCx X A outer s H E scope f c') o ta) (ha : PA (lamCx X A outer s H E scope f c') (e :: es) t)
    (hst : starEach (e :: es) (lamCx X A outer s H E scope f c').env = (false, eval e (lamCx X A outer s H E scope f c').env) :: starEach es (lamCx X A outer s H E scope f c').env := by rfl) (hpl : (backTo pos (starEach es (lamCx X A outer s H E scope f c').env)).any (·.1) = false := by rfl)
    (ht : eval (.Call (.Attribute o m apos) (e :: es) [] pos) (lamCx X A outer s H E scope f c').env = (do
      let ov ← eval o (lamCx X A outer s H E scope f c').env
      standAt apos.atName
      let (f1, first) ← holding [ov] (getMethod ov m pl)
      callWith pos f1 first (backTo pos (starEach (e :: es) (lamCx X A outer s H E scope f c').env)) (backToKw pos (keywordEach [] (lamCx X A outer s H E scope f c').env))) := by rfl) :
    PE (lamCx X A outer s H E scope f c') (.Call (.Attribute o m apos) (e :: es) [] pos) (tMeth C m sp [] E ta t) :=
  pe_meth (X := lamCx X A outer s H E scope f c') (pl := pl) (CX := L2.CX X.prog X.w) (E := E) he D.cl D.mt D.ok hr D.bd .nil (lam_passes (X := X) (A := A) (outer := outer) (s := s) (H := H) (E := E) (scope := scope) (f := f) (c' := c')) ha hst hpl ht
theorem pe_dL (D : DefOkX X.prog X.w X.K X.mg X.base k x g fd ps sp) (hr : Room k (lamCx X A outer s H E scope f c').A) (ha : PA (lamCx X A outer s H E scope f c') (e :: es) t) (hg : Gl (lamCx X A outer s H E scope f c') x) (hdb : (x == ("__debug__" : Str)) = false := by decide)
    (he : starEach (e :: es) (lamCx X A outer s H E scope f c').env = (false, eval e (lamCx X A outer s H E scope f c').env) :: starEach es (lamCx X A outer s H E scope f c').env := by rfl) (hpl : (backTo pos (starEach es (lamCx X A outer s H E scope f c').env)).any (·.1) = false := by rfl) :
    PE (lamCx X A outer s H E scope f c') (.Call (.Name x p) (e :: es) [] pos) (tCall sp [] E t) :=
  pe_call (X := lamCx X A outer s H E scope f c') (CX := L2.CX X.prog X.w) (E := E) D.ok hr hg D.mg D.kp D.bd .nil (lam_passes (X := X) (A := A) (outer := outer) (s := s) (H := H) (E := E) (scope := scope) (f := f) (c' := c')) ha hdb he hpl
end
/-- what is asked raises the first clause's error -/
theorem go_trA {Cl : VK → XK} {post : V → Hp → VK → Prop} {Tl : List (Addr × Str)} {C : Addr} {fn tag : Str} {x : V} {σ : L2.St} {H : Hp} {Q : VK} {t : XK → TE} (T : Tabs Tl H) (hC : ∀ Q cls d H, ClF C fn tag Q cls d H → Cl Q cls d H)
    (h : ∀ H1, ExtN H H1 → ∀ (E : XK) (R : VK), (∀ H' d, (∀ b o, H1 b = some o → H' b = some o) → H' d = none → E (.ref C) (some d) (upd H' d (.xd [(fn, x)]))) → t E σ H1 R)
    (k : ∀ p H1, ExtN H H1 → Tabs Tl H1 → (∀ o, H p = some o → ∃ ps, o = .tbl ps) → H1 p = some (.tup [.str tag, x]) → Q (.ref p) H1) : tLam Tl (TTtr Cl post) t σ H Q := by
  refine ⟨T, fun H1 e1 T1 p0 np0 E R hE _ => ?_⟩
  have s0 : ∀ b o, H1 b = some o → upd H1 p0 (.tup [.str "odd"]) b = some o := fun b o e => by rw [upd_ne (ne_of_none e np0)]; exact e
  refine h _ (e1.trans (.of s0)) E R fun H' d s nd => hE _ _ _ (hC _ _ _ _ ⟨x, ⟨rfl, d, _, rfl, upd_same, by simp [List.lookup]⟩, fun p np => ?_⟩)
  have s1 : ∀ b o, H1 b = some o → upd (upd H' d (.xd [(fn, x)])) p (.tup [.str tag, x]) b = some o := fun b o e => by
    have e2 := s _ _ (s0 b o e)
    have e3 : upd H' d (.xd [(fn, x)]) b = some o := by rw [upd_ne (ne_of_none e2 nd)]; exact e2
    rw [upd_ne (ne_of_none e3 np)]; exact e3
  refine k p _ (e1.trans (.of s1)) (T1.ext s1) (fun o ho => Classical.byContradiction fun hc => ?_) upd_same
  have h1 := e1 _ _ ho fun ps z => hc ⟨ps, z⟩
  have e2 := s _ _ (s0 _ _ h1)
  have e3 : upd H' d (.xd [(fn, x)]) p = some o := by rw [upd_ne (ne_of_none e2 nd)]; exact e2
  rw [np] at e3
  cases e3
theorem free_back' {H H1 H' : Hp} {p : Addr} (e1 : ExtN H H1) (s : ∀ b o, H1 b = some o → H' b = some o) (np : H' p = none) : ∀ o, H p = some o → ∃ ps, o = .tbl ps := fun o ho => Classical.byContradiction fun hc => by
  have h1 := s _ _ (e1 _ _ ho fun ps z => hc ⟨ps, z⟩)
  rw [np] at h1
  cases h1
/-- … an error without fields -/
theorem go_trO {Cl : VK → XK} {post : V → Hp → VK → Prop} {Tl : List (Addr × Str)} {C : Addr} {tag : Str} {σ : L2.St} {H : Hp} {Q : VK} {t : XK → TE} (T : Tabs Tl H) (hC : ∀ Q cls d H, ClO C tag Q cls d H → Cl Q cls d H)
    (h : ∀ H1, ExtN H H1 → ∀ (E : XK) (R : VK), (∀ H', (∀ b o, H1 b = some o → H' b = some o) → E (.ref C) none H') → t E σ H1 R)
    (k : ∀ p H1, ExtN H H1 → Tabs Tl H1 → (∀ o, H p = some o → ∃ ps, o = .tbl ps) → H1 p = some (.tup [.str tag]) → Q (.ref p) H1) : tLam Tl (TTtr Cl post) t σ H Q := by
  refine ⟨T, fun H1 e1 T1 p0 np0 E R hE _ => ?_⟩
  have s0 : ∀ b o, H1 b = some o → upd H1 p0 (.tup [.str "odd"]) b = some o := fun b o e => by rw [upd_ne (ne_of_none e np0)]; exact e
  refine h _ (e1.trans (.of s0)) E R fun H' s => hE _ _ _ (hC _ _ _ _ ⟨rfl, fun p np => ?_⟩)
  have s1 : ∀ b o, H1 b = some o → upd H' p (.tup [.str tag]) b = some o := fun b o e => by
    have e2 := s _ _ (s0 b o e)
    rw [upd_ne (ne_of_none e2 np)]; exact e2
  exact k p _ (e1.trans (.of s1)) (T1.ext s1) (free_back' e1 (fun b o e => s _ _ (s0 b o e)) np) upd_same
/-- … it tells something -/
theorem go_trV {Cl : VK → XK} {tag : Str} {Tl : List (Addr × Str)} {σ : L2.St} {H : Hp} {Q : VK} {t : XK → TE} (T : Tabs Tl H)
    (h : ∀ H1, ExtN H H1 → Tabs Tl H1 → ∀ (E : XK) (R : VK), (∀ v H', (∀ b o, H1 b = some o → H' b = some o) → (∀ p, H' p = none → Q (.ref p) (upd H' p (.tup [.str tag, v]))) → R v H') → t E σ H1 R) : tLam Tl (TTtr Cl (pTold tag)) t σ H Q := by
  refine ⟨T, fun H1 e1 T1 p0 np0 E R _ hR => ?_⟩
  have s0 : ∀ b o, H1 b = some o → upd H1 p0 (.tup [.str "odd"]) b = some o := fun b o e => by rw [upd_ne (ne_of_none e np0)]; exact e
  exact h _ (e1.trans (.of s0)) (T1.ext s0) E R fun v H' s q => hR v H' q
end Lm

namespace Lm
open PySem L2 LamX PySem.Spec PyProof.Rows
/-- a class whose __init__ may raise -/
structure ClsOkX (P : Program) (w : World) (K : PySem.W.Frag) (mg : Str → Option Value) (base : Heap) (k : Nat) (x : Str) (C f : Addr) (fd : FuncData) (ps : List Str) (sp : Sp) : Prop where
  ok : FnOk P w K mg base (L2.CX P w) k f fd ps sp
  bd : Binds K fd ps []
  mkr : Mk K C f
  cl : Cls K C
  mg : mg x = some (.ref C)
section
variable {X : Cx} {A : Around} {outer : List Env} {s : Shared} {H : Hp} {E : XK} {scope : Scope} {f c' : Addr} {k : Nat} {C g : Addr} {fd : FuncData} {ps : List Str} {sp : Sp} {x : Str} {p pos : Pos} {e : Expr} {es : List Expr} {t : TA}
theorem MetOkX.gtL (D : MetOkX X.prog X.w X.K X.mg X.base k C "__gt__" g fd ps sp) (hr : Room k (lamCx X A outer s H E scope f c').A) : OpR (lamCx X A outer s H E scope f c') (compareOp .Gt) (rBinOwn C sp E) :=
  op_cmpOwn (X := lamCx X A outer s H E scope f c') (fun _ _ => rfl) D.ok D.mt.at_ D.mt.fn D.bd hr (lam_passes (X := X) (A := A) (outer := outer) (s := s) (H := H) (E := E) (scope := scope) (f := f) (c' := c'))
theorem MetOkX.geL (D : MetOkX X.prog X.w X.K X.mg X.base k C "__ge__" g fd ps sp) (hr : Room k (lamCx X A outer s H E scope f c').A) : OpR (lamCx X A outer s H E scope f c') (compareOp .GtE) (rBinOwn C sp E) :=
  op_cmpOwn (X := lamCx X A outer s H E scope f c') (fun _ _ => rfl) D.ok D.mt.at_ D.mt.fn D.bd hr (lam_passes (X := X) (A := A) (outer := outer) (s := s) (H := H) (E := E) (scope := scope) (f := f) (c' := c'))
theorem pe_mkL (D : ClsOkX X.prog X.w X.K X.mg X.base k x C g fd ps sp) (hr : Room (k + 1) (lamCx X A outer s H E scope f c').A) (ha : PA (lamCx X A outer s H E scope f c') (e :: es) t) (hg : Gl (lamCx X A outer s H E scope f c') x := by rfl) (hdb : (x == ("__debug__" : Str)) = false := by decide)
    (he : starEach (e :: es) (lamCx X A outer s H E scope f c').env = (false, eval e (lamCx X A outer s H E scope f c').env) :: starEach es (lamCx X A outer s H E scope f c').env := by rfl) (hpl : (backTo pos (starEach es (lamCx X A outer s H E scope f c').env)).any (·.1) = false := by rfl) :
    PE (lamCx X A outer s H E scope f c') (.Call (.Name x p) (e :: es) [] pos) (tMake C sp [] E t) :=
  pe_make (X := lamCx X A outer s H E scope f c') (CX := L2.CX X.prog X.w) (E := E) D.mkr D.ok hr hg D.mg D.bd .nil (lam_passes (X := X) (A := A) (outer := outer) (s := s) (H := H) (E := E) (scope := scope) (f := f) (c' := c')) ha hdb he hpl
end
end Lm

/-! R17: for i, (x, y) in enumerate(zip(a, b)), two lists. -/
namespace Lm
open PySem PySem.Spec PyProof.Rows L2 RZ
open Sem (wp)
/-- a zip as it stands between two turns, its last tuple handed out or not -/
abbrev ZipG (h : Heap) (z TI TO : Addr) (f0 : Value) (f : Bool) : Prop :=
  h.get? z = some { cls := .type "zip", dict := none, data := .fields #[f0, .bool f, .bool false, .ref TI, .ref TO], slots := #[] }
def Own0 (f0 : Value) : Prop := f0 = .none ∨ ∃ T : Addr, f0 = rawInt T
def ZipA (h : Heap) (z TI TO : Addr) : Prop := ∃ f0 f, ZipG h z TI TO f0 f ∧ Own0 f0
section
variable {prog : Program} {w : World} {A : Around} {E : Value → Shared → Prop} {s : Shared}
theorem alive_any {a : Addr} {Q : Option Obj → Shared → Prop} (h : Q (s.heap.get? a) s) : wpAny (model prog w) A (loadIfAlive a) Q E s := fun _ _ _ => h
theorem owned_any {z TI TO : Addr} {f0 : Value} {f : Bool} {Q : Bool → Shared → Prop} (hz : ZipG s.heap z TI TO f0 f) (h0 : Own0 f0)
    (ht : Q true s) (hf : ∀ h', ZipG h' z TI TO f0 true → Heap.SameBut z s.heap h' → Q false { s with heap := h' }) : wpAny (model prog w) A (Builtin.SmallTypes.ownedTupleIsFree (.ref z)) Q E s := by
  unfold Builtin.SmallTypes.ownedTupleIsFree
  refine wpAny_bind (wpAny_field hz rfl (x := f0) rfl ?_)
  rcases h0 with rfl | ⟨T, rfl⟩
  · exact wpAny_pure ht
  · show wpAny _ _ (loadIfAlive ((T : Int).toNat) >>= _) _ _ _
    rw [Int.toNat_natCast]
    refine wpAny_bind (alive_any ?_)
    cases s.heap.get? T with
    | none =>
      simp only [Option.isNone_none, if_true]
      exact wpAny_pure ht
    | some o =>
      simp only [Option.isNone_some, Bool.false_eq_true, if_false]
      refine wpAny_bind (wpAny_field hz rfl (x := .bool f) rfl ?_)
      cases f with
      | true =>
        rw [if_neg (show ¬ ((Value.bool true != Value.bool true) = true) from Bool.false_ne_true)]
        exact wpAny_pure (hf s.heap hz (Heap.SameBut.refl _ _))
      | false =>
        rw [if_pos (show (Value.bool false != Value.bool true) = true from rfl)]
        exact wpAny_bind (wpAny_setField_rec hz (by simp) fun h₁ hz₁ hs₁ => wpAny_pure (hf h₁ hz₁ hs₁))
theorem zipG_item {z TI TO i1 i2 l1 l2 : Addr} {k1 k2 : Nat} {xs ys : Array Value} {x y : Value} {Q : Value → Shared → Prop} (D : ZipApart z TI TO i1 i2 l1 l2)
    (hz : ZipA s.heap z TI TO) (hTI : IsPair s.heap TI (.ref i1) (.ref i2)) (hTO : ∃ a b, IsPair s.heap TO a b)
    (h1 : s.heap.IsListIter i1 l1 k1) (h2 : s.heap.IsListIter i2 l2 k2) (hl1 : s.heap.IsList l1 xs) (hl2 : s.heap.IsList l2 ys) (hx : xs[k1]? = some x) (hy : ys[k2]? = some y)
    (hQ : ∀ h', ZipA h' z TI TO → (∃ a b, IsPair h' TO a b) → h'.IsListIter i1 l1 (k1 + 1) → h'.IsListIter i2 l2 (k2 + 1) → IsPair h' s.heap.objs.size x y → h'.objs.size = s.heap.objs.size + 1 →
      (∀ c o, c ≠ z → c ≠ TO → c ≠ i1 → c ≠ i2 → s.heap.get? c = some o → h'.get? c = some o) → Q (.ref s.heap.objs.size) { s with heap := h' }) :
    wpAny (model prog w) A (Builtin.«zip.__next__» ⟨[.ref z], []⟩) (fun fin s' => ∃ v, fin = .done (.ret v) ∧ Q v s') E s := by
  obtain ⟨f0, f, hz, h0⟩ := hz
  obtain ⟨a, b, hTO⟩ := hTO
  show wpAny _ _ (field (.ref z) 2 >>= _) _ _ _
  refine wpAny_bind (wpAny_field hz rfl (x := .bool false) rfl ?_)
  show wpAny _ _ (field (.ref z) 3 >>= _) _ _ _
  refine wpAny_bind (wpAny_field hz rfl (x := .ref TI) rfl ?_)
  refine wpAny_bind (wpAny_seqItems hTI rfl ?_)
  show wpAny _ _ (Builtin.SmallTypes.ownedTupleIsFree (.ref z) >>= _) _ _ _
  refine wpAny_bind (owned_any hz h0 ?_ fun h₁ hz₁ hs₁ => ?_)
  · simp only [if_true]
    refine wpAny_bind (wpAny_rule ?_)
    refine wpAny_bind (wpAny_field hz rfl (x := .ref TO) rfl ?_)
    refine wpAny_bind (wpAny_setField_rec hz (by simp) fun h₁ hz₁ hs₁ => ?_)
    replace hz₁ : ZipG h₁ z TI TO .ellipsis f := hz₁
    refine wpAny_bind ?_
    simp only [List.zipIdx_cons, List.zipIdx_nil, List.forIn_cons, List.forIn_nil]
    refine wpAny_bind (wpAny_bind (wpAny_onRaise ?_))
    show wpAny _ _ (Builtin.SmallTypes.nextOf (.ref i1) >>= _) _ _ _
    refine wpAny_bind (wpAny_nextOf_list_item (h1.extBut hs₁.extBut D.i1z) (hl1.extBut hs₁.extBut D.l1z) hx fun h₂ h1₂ hs₂ => wpAny_pure ?_)
    have hTO₂ : IsPair h₂ TO a b := hs₂.extBut _ _ D.TOi1 (hs₁.extBut _ _ D.TOz hTO)
    refine wpAny_bind (wpAny_seqItems hTO₂ rfl ?_)
    refine wpAny_bind (wpAny_updateSeq_pair hTO₂ fun h₃ hTO₃ hs₃ => ?_)
    replace hTO₃ : IsPair h₃ TO x b := hTO₃
    refine wpAny_bind (wpAny_letGo (wpAny_pure ?_))
    refine wpAny_bind (wpAny_bind (wpAny_onRaise ?_))
    show wpAny _ _ (Builtin.SmallTypes.nextOf (.ref i2) >>= _) _ _ _
    refine wpAny_bind (wpAny_nextOf_list_item (((h2.extBut hs₁.extBut D.i2z).extBut hs₂.extBut D.i12.symm).extBut hs₃.extBut D.TOi2.symm)
      (((hl2.extBut hs₁.extBut D.l2z).extBut hs₂.extBut D.l2i1).extBut hs₃.extBut D.l2TO) hy fun h₄ h2₄ hs₄ => wpAny_pure ?_)
    have hTO₄ : IsPair h₄ TO x b := hs₄.extBut _ _ D.TOi2 hTO₃
    refine wpAny_bind (wpAny_seqItems hTO₄ rfl ?_)
    refine wpAny_bind (wpAny_updateSeq_pair hTO₄ fun h₅ hTO₅ hs₅ => ?_)
    replace hTO₅ : IsPair h₅ TO x y := hTO₅
    refine wpAny_bind (wpAny_letGo (wpAny_pure (wpAny_pure ?_)))
    refine wpAny_bind (wpAny_seqItems hTO₅ rfl ?_)
    refine wpAny_bind (wpAny_newTuple ?_)
    have hsz : h₅.objs.size = s.heap.objs.size := by rw [hs₅.1, hs₄.1, hs₃.1, hs₂.1, hs₁.1]
    have hz₅ : ZipG h₅ z TI TO .ellipsis f := hs₅.extBut _ _ D.TOz.symm (hs₄.extBut _ _ D.i2z.symm (hs₃.extBut _ _ D.TOz.symm (hs₂.extBut _ _ D.i1z.symm hz₁)))
    have hk₅ : ∀ c o, c ≠ z → c ≠ TO → c ≠ i1 → c ≠ i2 → s.heap.get? c = some o → h₅.get? c = some o := fun c o c1 c2 c3 c4 e =>
      hs₅.extBut _ _ c2 (hs₄.extBut _ _ c4 (hs₃.extBut _ _ c2 (hs₂.extBut _ _ c3 (hs₁.extBut _ _ c1 e))))
    have h1₅ : h₅.IsListIter i1 l1 (k1 + 1) := ((h1₂.extBut hs₃.extBut D.TOi1.symm).extBut hs₄.extBut D.i12).extBut hs₅.extBut D.TOi1.symm
    have h2₅ : h₅.IsListIter i2 l2 (k2 + 1) := h2₄.extBut hs₅.extBut D.TOi2.symm
    have hzlt : z < h₅.objs.size := Heap.lt_size hz₅
    show wpAny _ _ (Builtin.SmallTypes.ownedTupleHandOut (.ref z) (.ref h₅.objs.size) >>= _) _ _ _
    refine wpAny_bind ?_
    unfold Builtin.SmallTypes.ownedTupleHandOut
    have hz₆ : ZipG (h₅.push { cls := .type "tuple", data := .seq #[x, y] }) z TI TO .ellipsis f := Heap.get?_push_of_some _ hz₅
    refine wpAny_bind (wpAny_setField_rec hz₆ (by simp) fun h₇ hz₇ hs₇ => ?_)
    replace hz₇ : ZipG h₇ z TI TO (rawInt h₅.objs.size) f := hz₇
    refine wpAny_setField_rec hz₇ (by simp) fun h₈ hz₈ hs₈ => ?_
    replace hz₈ : ZipG h₈ z TI TO (rawInt h₅.objs.size) false := hz₈
    have up : ∀ c o, c ≠ z → h₅.get? c = some o → h₈.get? c = some o := fun c o c1 e => hs₈.extBut _ _ c1 (hs₇.extBut _ _ c1 (Heap.get?_push_of_some _ e))
    have hT₈ : IsPair h₈ h₅.objs.size x y := hs₈.extBut _ _ (Nat.ne_of_gt hzlt) (hs₇.extBut _ _ (Nat.ne_of_gt hzlt) (Heap.get?_push_size _ rfl))
    have hz8 : h₈.objs.size = h₅.objs.size + 1 := by rw [hs₈.1, hs₇.1, Heap.size_push]
    rw [hsz] at hz₈ hT₈ hz8
    refine wpAny_pure ⟨_, rfl, ?_⟩
    show Q (.ref h₅.objs.size) _
    rw [hsz]
    exact hQ h₈ ⟨_, _, hz₈, .inr ⟨_, rfl⟩⟩ ⟨_, _, up _ _ D.TOz hTO₅⟩ (h1₅.at fun o e => up _ o D.i1z e) (h2₅.at fun o e => up _ o D.i2z e) hT₈ hz8 fun c o c1 c2 c3 c4 e => up c o c1 (hk₅ c o c1 c2 c3 c4 e)
  · simp only [Bool.false_eq_true, if_false]
    refine wpAny_bind ?_
    rw [← Array.forIn_toList]
    simp only [List.forIn_cons, List.forIn_nil]
    refine wpAny_bind (wpAny_bind (wpAny_holding ?_))
    show wpAny _ _ (Builtin.SmallTypes.nextOf (.ref i1) >>= _) _ _ _
    refine wpAny_bind (wpAny_nextOf_list_item (s := { s with heap := h₁ }) (h1.extBut hs₁.extBut D.i1z) (hl1.extBut hs₁.extBut D.l1z) hx fun h₂ h1₂ hs₂ => wpAny_pure ?_)
    refine wpAny_pure ?_
    refine wpAny_bind (wpAny_bind (wpAny_holding ?_))
    show wpAny _ _ (Builtin.SmallTypes.nextOf (.ref i2) >>= _) _ _ _
    refine wpAny_bind (wpAny_nextOf_list_item (s := { s with heap := h₂ }) ((h2.extBut hs₁.extBut D.i2z).extBut hs₂.extBut D.i12.symm) ((hl2.extBut hs₁.extBut D.l2z).extBut hs₂.extBut D.l2i1) hy fun h₃ h2₃ hs₃ => wpAny_pure ?_)
    refine wpAny_pure (wpAny_pure ?_)
    show wpAny _ _ (newTuple [x, y] >>= _) _ _ _
    refine wpAny_bind (wpAny_newTuple ?_)
    have hsz : h₃.objs.size = s.heap.objs.size := by rw [hs₃.1, hs₂.1, hs₁.1]
    have hz₃ : ZipG h₃ z TI TO f0 true := hs₃.extBut _ _ D.i2z.symm (hs₂.extBut _ _ D.i1z.symm hz₁)
    have hk : ∀ c o, c ≠ z → c ≠ i1 → c ≠ i2 → s.heap.get? c = some o → h₃.get? c = some o := fun c o c1 c2 c3 e => hs₃.extBut _ _ c3 (hs₂.extBut _ _ c2 (hs₁.extBut _ _ c1 e))
    have h1₃ : h₃.IsListIter i1 l1 (k1 + 1) := h1₂.extBut hs₃.extBut D.i12
    refine wpAny_pure ⟨_, rfl, ?_⟩
    show Q (.ref h₃.objs.size) _
    have hp : IsPair (h₃.push { cls := .type "tuple", data := .seq #[x, y] }) h₃.objs.size x y := Heap.get?_push_size _ rfl
    have hz4 : (h₃.push { cls := .type "tuple", data := .seq #[x, y] }).objs.size = h₃.objs.size + 1 := Heap.size_push ..
    rw [hsz] at hp hz4 ⊢
    exact hQ _ ⟨_, _, Heap.get?_push_of_some _ hz₃, h0⟩ ⟨_, _, Heap.get?_push_of_some _ (hk _ _ D.TOz D.TOi1 D.TOi2 hTO)⟩ (h1₃.at fun o e => Heap.get?_push_of_some _ e) (h2₃.at fun o e => Heap.get?_push_of_some _ e) hp hz4
      fun c o c1 _ c2 c3 e => Heap.get?_push_of_some _ (hk c o c1 c2 c3 e)
theorem zipG_end {z TI TO i1 i2 l1 l2 : Addr} {k1 k2 : Nat} {xs ys : Array Value} {Q : Fin → Shared → Prop} (hh : A.handled = none) (D : ZipApart z TI TO i1 i2 l1 l2)
    (hz : ZipA s.heap z TI TO) (hTI : IsPair s.heap TI (.ref i1) (.ref i2)) (hTO : ∃ a b, IsPair s.heap TO a b)
    (h1 : s.heap.IsListIter i1 l1 k1) (h2 : s.heap.IsListIter i2 l2 k2) (hl1 : s.heap.IsList l1 xs) (hl2 : s.heap.IsList l2 ys) (hend : xs[k1]? = none ∨ ys[k2]? = none)
    (hE : ∀ h' e, (∀ c o, c ≠ z → c ≠ TO → c ≠ i1 → c ≠ i2 → s.heap.get? c = some o → h'.get? c = some o) → (∃ o, h'.get? e = some o ∧ o.cls = .type "StopIteration") → E (.ref e) { s with heap := h' }) :
    wpAny (model prog w) A (Builtin.«zip.__next__» ⟨[.ref z], []⟩) Q E s := by
  obtain ⟨f0, f, hz, h0⟩ := hz
  obtain ⟨a, b, hTO⟩ := hTO
  show wpAny _ _ (field (.ref z) 2 >>= _) _ _ _
  refine wpAny_bind (wpAny_field hz rfl (x := .bool false) rfl ?_)
  show wpAny _ _ (field (.ref z) 3 >>= _) _ _ _
  refine wpAny_bind (wpAny_field hz rfl (x := .ref TI) rfl ?_)
  refine wpAny_bind (wpAny_seqItems hTI rfl ?_)
  show wpAny _ _ (Builtin.SmallTypes.ownedTupleIsFree (.ref z) >>= _) _ _ _
  refine wpAny_bind (owned_any hz h0 ?_ fun h₁ hz₁ hs₁ => ?_)
  · simp only [if_true]
    refine wpAny_bind (wpAny_rule ?_)
    refine wpAny_bind (wpAny_field hz rfl (x := .ref TO) rfl ?_)
    refine wpAny_bind (wpAny_setField_rec hz (by simp) fun h₁ hz₁ hs₁ => ?_)
    replace hz₁ : ZipG h₁ z TI TO .ellipsis f := hz₁
    refine wpAny_bind ?_
    simp only [List.zipIdx_cons, List.zipIdx_nil, List.forIn_cons, List.forIn_nil]
    refine wpAny_bind (wpAny_bind (wpAny_onRaise ?_))
    show wpAny _ _ (Builtin.SmallTypes.nextOf (.ref i1) >>= _) _ _ _
    cases hx : xs[k1]? with
    | none =>
      refine wpAny_bind (wpAny_nextOf_list_end hh (h1.extBut hs₁.extBut D.i1z) (hl1.extBut hs₁.extBut D.l1z) hx fun h₂ e hs₂ he => ?_)
      obtain ⟨oe, hoe, hce⟩ := he
      have hz₂ : ZipG h₂ z TI TO .ellipsis f := hs₂ _ _ D.i1z.symm hz₁
      have hez : e ≠ z := fun x => by subst x; rw [hz₂] at hoe; cases hoe; simp at hce
      refine wpAny_setField_rec hz₂ (by simp) fun h₃ _ hs₃ => hE h₃ e (fun c o c1 _ c3 _ x => hs₃.extBut _ _ c1 (hs₂ _ _ c3 (hs₁.extBut _ _ c1 x))) ⟨oe, hs₃.extBut _ _ hez hoe, hce⟩
    | some x =>
      have hy : ys[k2]? = none := by rcases hend with h | h; rw [hx] at h; cases h; exact h
      refine wpAny_bind (wpAny_nextOf_list_item (h1.extBut hs₁.extBut D.i1z) (hl1.extBut hs₁.extBut D.l1z) hx fun h₂ h1₂ hs₂ => wpAny_pure ?_)
      have hTO₂ : IsPair h₂ TO a b := hs₂.extBut _ _ D.TOi1 (hs₁.extBut _ _ D.TOz hTO)
      refine wpAny_bind (wpAny_seqItems hTO₂ rfl ?_)
      refine wpAny_bind (wpAny_updateSeq_pair hTO₂ fun h₃ hTO₃ hs₃ => ?_)
      refine wpAny_bind (wpAny_letGo (wpAny_pure ?_))
      refine wpAny_bind (wpAny_bind (wpAny_onRaise ?_))
      show wpAny _ _ (Builtin.SmallTypes.nextOf (.ref i2) >>= _) _ _ _
      refine wpAny_bind (wpAny_nextOf_list_end hh (((h2.extBut hs₁.extBut D.i2z).extBut hs₂.extBut D.i12.symm).extBut hs₃.extBut D.TOi2.symm)
        (((hl2.extBut hs₁.extBut D.l2z).extBut hs₂.extBut D.l2i1).extBut hs₃.extBut D.l2TO) hy fun h₄ e hs₄ he => ?_)
      obtain ⟨oe, hoe, hce⟩ := he
      have hz₄ : ZipG h₄ z TI TO .ellipsis f := hs₄ _ _ D.i2z.symm (hs₃.extBut _ _ D.TOz.symm (hs₂.extBut _ _ D.i1z.symm hz₁))
      have hez : e ≠ z := fun x => by subst x; rw [hz₄] at hoe; cases hoe; simp at hce
      refine wpAny_setField_rec hz₄ (by simp) fun h₅ _ hs₅ => hE h₅ e (fun c o c1 c2 c3 c4 x => hs₅.extBut _ _ c1 (hs₄ _ _ c4 (hs₃.extBut _ _ c2 (hs₂.extBut _ _ c3 (hs₁.extBut _ _ c1 x))))) ⟨oe, hs₅.extBut _ _ hez hoe, hce⟩
  · simp only [Bool.false_eq_true, if_false]
    refine wpAny_bind ?_
    rw [← Array.forIn_toList]
    simp only [List.forIn_cons, List.forIn_nil]
    refine wpAny_bind (wpAny_bind (wpAny_holding ?_))
    show wpAny _ _ (Builtin.SmallTypes.nextOf (.ref i1) >>= _) _ _ _
    cases hx : xs[k1]? with
    | none =>
      refine wpAny_bind (wpAny_nextOf_list_end (s := { s with heap := h₁ }) hh (h1.extBut hs₁.extBut D.i1z) (hl1.extBut hs₁.extBut D.l1z) hx fun h₂ e hs₂ he => ?_)
      exact hE h₂ e (fun c o c1 _ c2 _ x => hs₂ _ _ c2 (hs₁.extBut _ _ c1 x)) he
    | some x =>
      have hy : ys[k2]? = none := by rcases hend with h | h; rw [hx] at h; cases h; exact h
      refine wpAny_bind (wpAny_nextOf_list_item (s := { s with heap := h₁ }) (h1.extBut hs₁.extBut D.i1z) (hl1.extBut hs₁.extBut D.l1z) hx fun h₂ h1₂ hs₂ => wpAny_pure ?_)
      refine wpAny_pure ?_
      refine wpAny_bind (wpAny_bind (wpAny_holding ?_))
      show wpAny _ _ (Builtin.SmallTypes.nextOf (.ref i2) >>= _) _ _ _
      refine wpAny_bind (wpAny_nextOf_list_end (s := { s with heap := h₂ }) hh ((h2.extBut hs₁.extBut D.i2z).extBut hs₂.extBut D.i12.symm) ((hl2.extBut hs₁.extBut D.l2z).extBut hs₂.extBut D.l2i1) hy fun h₃ e hs₃ he => ?_)
      exact hE h₃ e (fun c o c1 _ c2 c3 x => hs₃ _ _ c3 (hs₂.extBut _ _ c2 (hs₁.extBut _ _ c1 x))) he
/-- what stands apart in an enumerate of a zip -/
structure EZ (e z TI TO i1 i2 : Addr) : Prop where
  z : e ≠ z
  TI : e ≠ TI
  TO : e ≠ TO
  i1 : e ≠ i1
  i2 : e ≠ i2
theorem enumZip_item {e z TI TO i1 i2 l1 l2 : Addr} {i : Nat} {xs ys : Array Value} {x y old : Value} {Q : Option Value → Shared → Prop} (D : ZipApart z TI TO i1 i2 l1 l2) (N : EZ e z TI TO i1 i2)
    (he : IsEnum s.heap e z i old) (hz : ZipA s.heap z TI TO) (hTI : IsPair s.heap TI (.ref i1) (.ref i2)) (hTO : ∃ a b, IsPair s.heap TO a b)
    (h1 : s.heap.IsListIter i1 l1 i) (h2 : s.heap.IsListIter i2 l2 i) (hl1 : s.heap.IsList l1 xs) (hl2 : s.heap.IsList l2 ys) (hx : xs[i]? = some x) (hy : ys[i]? = some y)
    (hQ : ∀ hm h', IsPair hm s.heap.objs.size x y → hm.objs.size = s.heap.objs.size + 1 → (∀ c o, c ≠ z → c ≠ TO → c ≠ i1 → c ≠ i2 → s.heap.get? c = some o → hm.get? c = some o) →
      IsEnumOut h' e z ((i : Int) + 1) (.ref s.heap.objs.size) (s.heap.objs.size + 1) → ZipA h' z TI TO → IsPair h' TI (.ref i1) (.ref i2) → (∃ a b, IsPair h' TO a b) → h'.IsListIter i1 l1 (i + 1) → h'.IsListIter i2 l2 (i + 1) →
      h'.get? (s.heap.objs.size + 1) = some { cls := .type "tuple", data := .seq #[.int i s.toks, .ref s.heap.objs.size] } → h'.objs.size = s.heap.objs.size + 2 →
      (∀ c o, c ≠ e → hm.get? c = some o → h'.get? c = some o) → Q (some (.ref (s.heap.objs.size + 1))) { s with heap := h', toks := s.toks + 1 }) :
    wpAny (model prog w) A (pyNext (.ref e)) Q E s := by
  obtain ⟨hp, g, d, tk, os⟩ := s
  have hTe : Shared.TypeIs ⟨hp, g, d, tk, os⟩ (.ref e) "enumerate" := ⟨_, he, rfl⟩
  have hel : e < hp.objs.size := Heap.lt_size he
  unfold pyNext
  refine wpAny_bind (wpAny_attempt (wpAny_callSpecial?_slot (name := Str.ofString "__next__") hTe F.slot_enumerate_next
    (wpAny_call_entry F.slot_enumerate_next hTe F.entry_enumerate_next ?_ (F.args_enumerate_next_1 _))))
  show wpAny _ _ (field (.ref e) 2 >>= _) _ _ _
  refine wpAny_bind (wpAny_field he rfl (x := .ref z) rfl ?_)
  have hTz : Shared.TypeIs ⟨hp, g, d, tk, os⟩ (.ref z) "zip" := by obtain ⟨f0, f, q, _⟩ := hz; exact ⟨_, q, rfl⟩
  unfold Builtin.SmallTypes.nextOf
  refine wpAny_bind (wpAny_bind (wpAny_callSpecial?_slot (name := Str.ofString "__next__") hTz F.slot_zip_next
    (wpAny_call_entry F.slot_zip_next hTz F.entry_zip_next
      (zipG_item D hz hTI hTO h1 h2 hl1 hl2 hx hy fun hm z1 t1 j1 j2 p1 sz1 k1 => ?_) (F.args_zip_next_1 _))))
  refine wpAny_pure ?_
  replace k1 : ∀ c o, c ≠ z → c ≠ TO → c ≠ i1 → c ≠ i2 → hp.get? c = some o → hm.get? c = some o := k1
  replace p1 : IsPair hm hp.objs.size x y := p1
  replace sz1 : hm.objs.size = hp.objs.size + 1 := sz1
  have he₁ : IsEnum hm e z i old := k1 _ _ N.z N.TO N.i1 N.i2 he
  have hTI₁ : IsPair hm TI (.ref i1) (.ref i2) := k1 _ _ D.TIz D.TITO D.TIi1 D.TIi2 hTI
  show wpAny _ _ (field (.ref e) 3 >>= _) _ _ ⟨hm, g, d, tk, os⟩
  refine wpAny_bind (wpAny_field he₁ rfl (x := rawInt i) rfl ?_)
  show wpAny _ _ (field (.ref e) 4 >>= _) _ _ ⟨hm, g, d, tk, os⟩
  refine wpAny_bind (wpAny_field he₁ rfl (x := .none) rfl ?_)
  show wpAny _ _ (mkInt i >>= _) _ _ ⟨hm, g, d, tk, os⟩
  refine wpAny_bind (wpAny_mkInt ?_)
  show wpAny _ _ (setField (.ref e) 3 (rawInt ((i : Int) + 1)) >>= _) _ _ ⟨hm, g, d, tk + 1, os⟩
  refine wpAny_bind (wpAny_setField_rec he₁ (by simp) fun h₂ he₂ hs₂ => ?_)
  replace hs₂ : Heap.SameBut e hm h₂ := hs₂
  replace he₂ : IsEnum h₂ e z ((i : Int) + 1) old := he₂
  show wpAny _ _ (setField (.ref e) 4 .none >>= _) _ _ ⟨h₂, g, d, tk + 1, os⟩
  refine wpAny_bind (wpAny_setField_rec he₂ (by simp) fun h₃ he₃ hs₃ => ?_)
  replace hs₃ : Heap.SameBut e h₂ h₃ := hs₃
  replace he₃ : IsEnum h₃ e z ((i : Int) + 1) old := he₃
  show wpAny _ _ (newTuple [.int i tk, .ref hp.objs.size] >>= _) _ _ ⟨h₃, g, d, tk + 1, os⟩
  refine wpAny_bind (wpAny_newTuple ?_)
  have he₄ : IsEnum (h₃.push { cls := .type "tuple", data := .seq #[.int i tk, .ref hp.objs.size] }) e z ((i : Int) + 1) old := Heap.get?_push_of_some _ he₃
  generalize hh₄ : h₃.push { cls := .type "tuple", data := .seq #[.int i tk, .ref hp.objs.size] } = h₄ at he₄
  have hsz : h₃.objs.size = hp.objs.size + 1 := by rw [hs₃.1, hs₂.1, sz1]
  have ht₄ : h₄.get? (hp.objs.size + 1) = some { cls := .type "tuple", data := .seq #[.int i tk, .ref hp.objs.size] } := by rw [← hh₄, ← hsz]; exact Heap.get?_push_size _ rfl
  have hz₄ : h₄.objs.size = hp.objs.size + 2 := by rw [← hh₄, Heap.size_push, hsz]
  have hk₄ : ∀ b o, b ≠ e → hm.get? b = some o → h₄.get? b = some o := fun b o hbe hb => by
    rw [← hh₄]; exact Heap.get?_push_of_some _ (hs₃.extBut b o hbe (hs₂.extBut b o hbe hb))
  show wpAny _ _ (Builtin.SmallTypes.ownedTupleIsFree (.ref e) >>= _) _ _ ⟨h₄, g, d, tk + 1, os⟩
  rw [hsz]
  clear hh₄ he₃ hs₃ he₂ hs₂ he₁ hsz h₃ h₂
  refine wpAny_bind ?_
  unfold Builtin.SmallTypes.ownedTupleIsFree
  refine wpAny_bind (wpAny_field he₄ rfl (x := .none) rfl (wpAny_pure ?_))
  simp only [if_true]
  refine wpAny_bind (wpAny_rule ?_)
  refine wpAny_bind (wpAny_field he₄ rfl (x := old) rfl ?_)
  refine wpAny_bind (wpAny_setField_rec he₄ (by simp) fun h₅ he₅ hs₅ => ?_)
  replace hs₅ : Heap.SameBut e h₄ h₅ := hs₅
  replace he₅ : IsEnum h₅ e z ((i : Int) + 1) (.ref hp.objs.size) := he₅
  show wpAny _ _ (Builtin.SmallTypes.ownedTupleHandOut (.ref e) (.ref (hp.objs.size + 1)) >>= _) _ _ ⟨h₅, g, d, tk + 1, os⟩
  refine wpAny_bind ?_
  unfold Builtin.SmallTypes.ownedTupleHandOut
  refine wpAny_bind (wpAny_setField_rec he₅ (by simp) fun h₆ he₆ hs₆ => ?_)
  replace hs₆ : Heap.SameBut e h₅ h₆ := hs₆
  replace he₆ : IsEnumOut h₆ e z ((i : Int) + 1) (.ref hp.objs.size) (hp.objs.size + 1) := he₆
  refine wpAny_setField_rec he₆ (by simp) fun h₇ he₇ hs₇ => ?_
  replace hs₇ : Heap.SameBut e h₆ h₇ := hs₇
  replace he₇ : IsEnumOut h₇ e z ((i : Int) + 1) (.ref hp.objs.size) (hp.objs.size + 1) := he₇
  have up : ∀ b o, b ≠ e → h₄.get? b = some o → h₇.get? b = some o := fun b o hb q => hs₇.extBut _ _ hb (hs₆.extBut _ _ hb (hs₅.extBut _ _ hb q))
  have up2 : ∀ b o, b ≠ e → hm.get? b = some o → h₇.get? b = some o := fun b o hb q => up b o hb (hk₄ b o hb q)
  have hne : hp.objs.size + 1 ≠ e := Nat.ne_of_gt (Nat.lt_succ_of_lt hel)
  refine wpAny_bind (wpAny_letGo (wpAny_pure ⟨_, rfl, wpAny_pure (hQ hm h₇ p1 sz1 k1 he₇ ?_ (up2 _ _ N.TI.symm hTI₁) ?_ (j1.at fun o q => up2 _ o N.i1.symm q) (j2.at fun o q => up2 _ o N.i2.symm q) (up _ _ hne ht₄) ?_ up2)⟩))
  · obtain ⟨f0, f, q, q'⟩ := z1
    exact ⟨f0, f, up2 _ _ N.z.symm q, q'⟩
  · obtain ⟨a, b, q⟩ := t1
    exact ⟨a, b, up2 _ _ N.TO.symm q⟩
  · rw [hs₇.1, hs₆.1, hs₅.1, hz₄]
theorem enumZip_end {e z TI TO i1 i2 l1 l2 : Addr} {i : Nat} {xs ys : Array Value} {old : Value} {Q : Option Value → Shared → Prop} (hh : A.handled = none) (D : ZipApart z TI TO i1 i2 l1 l2)
    (he : IsEnum s.heap e z i old) (hz : ZipA s.heap z TI TO) (hTI : IsPair s.heap TI (.ref i1) (.ref i2)) (hTO : ∃ a b, IsPair s.heap TO a b)
    (h1 : s.heap.IsListIter i1 l1 i) (h2 : s.heap.IsListIter i2 l2 i) (hl1 : s.heap.IsList l1 xs) (hl2 : s.heap.IsList l2 ys) (hend : xs[i]? = none ∨ ys[i]? = none)
    (hQ : ∀ h', (∀ c o, c ≠ z → c ≠ TO → c ≠ i1 → c ≠ i2 → s.heap.get? c = some o → h'.get? c = some o) → Q none { s with heap := h' }) : wpAny (model prog w) A (pyNext (.ref e)) Q E s := by
  have hTe : s.TypeIs (.ref e) "enumerate" := ⟨_, he, rfl⟩
  have hTz : s.TypeIs (.ref z) "zip" := by obtain ⟨f0, f, q, _⟩ := hz; exact ⟨_, q, rfl⟩
  unfold pyNext
  refine wpAny_bind (wpAny_attempt (wpAny_callSpecial?_slot (name := Str.ofString "__next__") hTe F.slot_enumerate_next
    (wpAny_call_entry F.slot_enumerate_next hTe F.entry_enumerate_next ?_ (F.args_enumerate_next_1 _))))
  show wpAny _ _ (field (.ref e) 2 >>= _) _ _ _
  refine wpAny_bind (wpAny_field he rfl (x := .ref z) rfl ?_)
  unfold Builtin.SmallTypes.nextOf
  refine wpAny_bind (wpAny_bind (wpAny_callSpecial?_slot (name := Str.ofString "__next__") hTz F.slot_zip_next
    (wpAny_call_entry F.slot_zip_next hTz F.entry_zip_next (zipG_end hh D hz hTI hTO h1 h2 hl1 hl2 hend fun h' x hk hx' => ?_) (F.args_zip_next_1 _))))
  obtain ⟨o, ho, hc⟩ := hx'
  refine wpAny_bind (wpAny_isInstance (T := "StopIteration") (b := true) ⟨o, ho, hc⟩ isSubtype_stop ?_)
  exact wpAny_pure (hQ _ hk)
theorem enumG_letGo {elts : List Expr} {x1} {pos : Pos} {e z T : Addr} {i : Int} {x : Value} {Q : Unit → Shared → Prop} (he : IsEnumOut s.heap e z i x T)
    (hQ : ∀ h', IsEnum h' e z i x → Heap.SameBut e s.heap h' → Q () { s with heap := h' }) : wpAny (model prog w) A (letOwnedTupleGo (.Tuple elts x1 pos) (.ref e) (.ref T)) Q E s := wpAny_letOwnedTupleGo_enum he hQ
theorem call_enumerate_zip {z TI TO : Addr} {Q : Value → Shared → Prop} (hz : ZipG s.heap z TI TO .none false)
    (h : ∀ h', IsEnum h' s.heap.objs.size z 0 .none → h'.objs.size = s.heap.objs.size + 1 → (∀ b o, s.heap.get? b = some o → h'.get? b = some o) → Q (.ref s.heap.objs.size) { s with heap := h' }) :
    wpAny (model prog w) A (call (.type "enumerate") [.ref z]) Q E s := by
  have me : Meets (Builtin.«enumerate.__new__» ⟨[.type "enumerate", .ref z], []⟩) (fun _ R s => ZipG s.heap z TI TO .none false ∧
      R (.ok (.ret (.ref s.heap.objs.size))) { s with heap := s.heap.push { cls := .type "enumerate", data := .fields #[.none, .bool false, .ref z, rawInt 0, .none, .none] } }) :=
    .of_wp fun prog w A R s h => by
      obtain ⟨hp, g, d, tk, os⟩ := s
      obtain ⟨hz, h⟩ := h
      have hsub := sub_enumerate
      have hZ : IsZip (Shared.heap ⟨hp, g, d, tk, os⟩) z TI TO .none := hz
      wp_walk using AutoSeq1.wpAny_loadPart' hz
      refine wpAny_stack_any fun st => wpAny_pure ?_
      split
      · rename_i c _ _ _ _ _
        cases (c == Value.type "enumerate")
        · wp_walk using AutoSeq1.wpAny_loadPart' hz, wpAny_pyIter_zip hZ
          exact ⟨_, rfl, h⟩
        · wp_walk using AutoSeq1.wpAny_loadPart' hz, wpAny_pyIter_zip hZ
          exact ⟨_, rfl, h⟩
      · wp_walk using AutoSeq1.wpAny_loadPart' hz, wpAny_pyIter_zip hZ
        exact ⟨_, rfl, h⟩
  refine callType_new F.called_enumerate (by decide) (F.typeCall_enumerate_1 _) (F.newCall_enumerate_1 _) (fun obj => F.args_object_init_2 obj _) F.entry_enumerate_new me ⟨hz, ?_⟩
  have he : IsEnum (s.heap.push { cls := .type "enumerate", data := .fields #[.none, .bool false, .ref z, rawInt 0, .none, .none] }) s.heap.objs.size z 0 .none := Heap.get?_push_size _ rfl
  exact ⟨⟨_, he, rfl⟩, h _ he (Heap.size_push ..) fun b o x => Heap.get?_push_of_some _ x⟩
end
/-- the lists at a and b as they stand at each turn, the items in new pairs, the pairs in new pairs behind their number -/
def Itez (K : PySem.W.Frag) (a b : Addr) : It :=
  ⟨fun i H => ∃ (xs ys : List V) (x y : V), SqL K H a xs ∧ SqL K H b ys ∧ xs[i]? = some x ∧ ys[i]? = some y,
    fun i H v H' => ∃ P T x y, v = .ref T ∧ H P = none ∧ H T = none ∧ P ≠ T ∧ H' = upd (upd H P (.tup [x, y])) T (.tup [.int (i : Nat), .ref P]) ∧ (∀ xs, SqL K H a xs → xs[i]? = some x) ∧ ∀ ys, SqL K H b ys → ys[i]? = some y,
    fun i H => ∃ xs ys : List V, SqL K H a xs ∧ SqL K H b ys ∧ (xs.length ≤ i ∨ ys.length ≤ i)⟩
theorem turn_enumZip {P : Program} {w : World} {K : PySem.W.Frag} {elts : List Expr} {kk : Nat} {tpos : Pos} {a b e z TI TO i1 i2 : Addr} (D : ZipApart z TI TO i1 i2 a b) (N : EZ e z TI TO i1 i2) :
    Turn P w K (.Tuple elts kk tpos) (Itez K a b) [e, z, TI, TO, i1, i2] e (fun i h => (∃ old, IsEnum h e z ((i : Nat) : Int) old) ∧ ZipA h z TI TO ∧ IsPair h TI (.ref i1) (.ref i2) ∧ (∃ x y, IsPair h TO x y) ∧ h.IsListIter i1 a i ∧ h.IsListIter i2 b i) where
  mem := by simp
  obj := fun i h st c hc => by
    obtain ⟨⟨old, he⟩, ⟨f0, f, hz, _⟩, hTI, ⟨x, y, hTO⟩, ⟨o1, e1, _, d1⟩, ⟨o2, e2, _, d2⟩⟩ := st
    have e' : c = e ∨ c = z ∨ c = TI ∨ c = TO ∨ c = i1 ∨ c = i2 := by simpa using hc
    rcases e' with q | q | q | q | q | q
    · rw [q]; exact ⟨_, he, fun v q => nomatch q⟩
    · rw [q]; exact ⟨_, hz, fun v q => nomatch q⟩
    · rw [q]; exact ⟨_, hTI, fun v q => nomatch q⟩
    · rw [q]; exact ⟨_, hTO, fun v q => nomatch q⟩
    · rw [q]; exact ⟨o1, e1, fun v q => by rw [d1] at q; cases q⟩
    · rw [q]; exact ⟨o2, e2, fun v q => by rw [d2] at q; cases q⟩
  keep := fun i h h' st k => by
    obtain ⟨⟨old, he⟩, ⟨f0, f, hz, h0⟩, hTI, ⟨x, y, hTO⟩, h1, h2⟩ := st
    exact ⟨⟨old, k e (by simp) _ he⟩, ⟨f0, f, k z (by simp) _ hz, h0⟩, k TI (by simp) _ hTI, ⟨x, y, k TO (by simp) _ hTO⟩, h1.at fun o q => k i1 (by simp) o q, h2.at fun o q => k i2 (by simp) o q⟩
  item := by
    intro X hP hw hK hc i pins s σ H E I hf st hg
    subst hP hw hK
    obtain ⟨⟨old, he⟩, hz, hTI, hTO, h1, h2⟩ := st
    obtain ⟨xs, ys, x, y, hqx, hqy, hx, hy⟩ := hg
    obtain ⟨its, rv, p, _⟩ := I.list hqx
    obtain ⟨its2, rv2, p2, _⟩ := I.list hqy
    obtain ⟨u, hu, ru⟩ := rv.get hx
    obtain ⟨u2, hu2, ru2⟩ := rv2.get hy
    have lt : ∀ c, c ∈ [e, z, TI, TO, i1, i2] → c < s.heap.objs.size := fun c hcm => by
      have e' : c = e ∨ c = z ∨ c = TI ∨ c = TO ∨ c = i1 ∨ c = i2 := by simpa using hcm
      obtain ⟨f0, f, hz', _⟩ := hz
      obtain ⟨_, _, hTO'⟩ := hTO
      rcases e' with q | q | q | q | q | q
      · rw [q]; exact Heap.lt_size he
      · rw [q]; exact Heap.lt_size hz'
      · rw [q]; exact Heap.lt_size hTI
      · rw [q]; exact Heap.lt_size hTO'
      · rw [q]; obtain ⟨_, e1, _⟩ := h1; exact Heap.lt_size e1
      · rw [q]; obtain ⟨_, e2, _⟩ := h2; exact Heap.lt_size e2
    refine enumZip_item D N he hz hTI hTO h1 h2 p.isList p2.isList (x := u) (y := u2) (by simpa using hu) (by simpa using hu2) fun hm h' pm szm km he' hz' hTI' hTO' h1' h2' hT sz' k' => ?_
    refine ⟨_, rfl, wpAny_letOwnedTupleGo_enum (s := { s with heap := h', toks := s.toks + 1 }) he' fun h'' he'' sb => ?_⟩
    replace sb : Heap.SameBut e h' h'' := sb
    have new1 : ObjOk X.prog X.w (upd H s.heap.objs.size (.tup [x, y])) hm s.heap.objs.size (.tup [x, y]) :=
      ⟨by show 2 ≤ sizeLine; decide, [u, u2], .cons ru (.cons ru2 .nil), ⟨_, pm, rfl, _, rfl⟩⟩
    have I1 : Inv X pins σ (upd H s.heap.objs.size (.tup [x, y])) { s with heap := hm } :=
      I.turnedNew (t' := s.toks) (ch := [e, z, TI, TO, i1, i2]) (fun c o hb q => km c o (fun q' => hb (by simp [q'])) (fun q' => hb (by simp [q'])) (fun q' => hb (by simp [q'])) (fun q' => hb (by simp [q'])) q) hf (Nat.le_refl _) new1
    have hf1 : ∀ c ∈ [e, z, TI, TO, i1, i2], FpOk X pins (upd H s.heap.objs.size (.tup [x, y])) c := fun c hcm => ⟨by rw [upd_ne (Nat.ne_of_lt (lt c hcm))]; exact (hf c hcm).1, (hf c hcm).2⟩
    have hel : e < s.heap.objs.size := lt e (by simp)
    have hT2 : h''.get? (s.heap.objs.size + 1) = some { cls := .type "tuple", data := .seq #[.int i s.toks, .ref s.heap.objs.size] } := (sb.2 _ (Nat.ne_of_gt (Nat.lt_succ_of_lt hel))).trans hT
    have new2 : ObjOk X.prog X.w (upd (upd H s.heap.objs.size (.tup [x, y])) (s.heap.objs.size + 1) (.tup [.int (i : Nat), .ref s.heap.objs.size])) h'' (s.heap.objs.size + 1) (.tup [.int (i : Nat), .ref s.heap.objs.size]) :=
      ⟨by show 2 ≤ sizeLine; decide, [.int i s.toks, .ref s.heap.objs.size], .cons ⟨_, rfl⟩ (.cons rfl .nil), ⟨_, hT2, rfl, _, rfl⟩⟩
    have I2 : Inv X pins σ (upd (upd H s.heap.objs.size (.tup [x, y])) (s.heap.objs.size + 1) (.tup [.int (i : Nat), .ref s.heap.objs.size])) { s with heap := h'', toks := s.toks + 1 } :=
      I1.turnedNew (ch := [e, z, TI, TO, i1, i2]) (fun c o hb q => (sb.2 c (fun z => hb (by simp [z]))).trans (k' c o (fun z => hb (by simp [z])) q)) hf1 (Nat.le_of_eq szm) new2
    refine ⟨.ref (s.heap.objs.size + 1), _, I2, rfl, ⟨_, _, x, y, rfl, I.hok.fresh (Nat.le_refl _), I.hok.fresh (Nat.le_succ _), Nat.ne_of_lt (Nat.lt_succ_self _), rfl, fun l hl => by rw [I.list_inj hl hqx]; exact hx, fun l hl => by rw [I.list_inj hl hqy]; exact hy⟩,
      ⟨⟨.ref s.heap.objs.size, ?_⟩, ?_, (sb.2 _ N.TI.symm).trans hTI', ?_, h1'.at fun o q => (sb.2 _ N.i1.symm).trans q, h2'.at fun o q => (sb.2 _ N.i2.symm).trans q⟩, fun c hcm => ?_⟩
    · have e1 : ((i + 1 : Nat) : Int) = (i : Int) + 1 := by omega
      rw [e1]; exact he''
    · obtain ⟨f0, f, q, q'⟩ := hz'
      exact ⟨f0, f, (sb.2 _ N.z.symm).trans q, q'⟩
    · obtain ⟨a', b', q⟩ := hTO'
      exact ⟨a', b', (sb.2 _ N.TO.symm).trans q⟩
    · rw [upd_ne (Nat.ne_of_lt (Nat.lt_succ_of_lt (lt c hcm))), upd_ne (Nat.ne_of_lt (lt c hcm))]
      exact (hf c hcm).1
  done := by
    intro X hP hw hK hc i pins s σ H E I hf st hg
    subst hP hw hK
    obtain ⟨⟨old, he⟩, hz, hTI, hTO, h1, h2⟩ := st
    obtain ⟨xs, ys, hqx, hqy, hend⟩ := hg
    obtain ⟨its, rv, p, _⟩ := I.list hqx
    obtain ⟨its2, rv2, p2, _⟩ := I.list hqy
    have l1 := rv.length
    have l2 := rv2.length
    have he' : its.toArray[i]? = none ∨ its2.toArray[i]? = none := by
      rcases hend with q | q
      · exact .inl (by simp; omega)
      · exact .inr (by simp; omega)
    exact enumZip_end (I.ok.hd hc) D he hz hTI hTO h1 h2 p.isList p2.isList he' fun h' hk => ⟨rfl, I.turnedL (t' := s.toks) (ch := [e, z, TI, TO, i1, i2]) (fun c o hb q =>
      hk c o (fun q' => hb (by simp [q'])) (fun q' => hb (by simp [q'])) (fun q' => hb (by simp [q'])) (fun q' => hb (by simp [q'])) q) hf⟩
  self := fun A i s Q E st h => let ⟨⟨_, he⟩, _⟩ := st; wpAny_pyIter_enum he h
def iEnumZip (K : PySem.W.Frag) (ta : TA) : TI := fun σ H R => ta σ H fun vs H1 => ∃ a b xs ys, vs = [.ref a, .ref b] ∧ SqL K H1 a xs ∧ SqL K H1 b ys ∧ R (Itez K a b) H1
theorem pi_enumZip {X : Cx} {e e2 : Expr} {ta : TA} {p p2 q pos tpos : Pos} {elts : List Expr} {kk : Nat} (hg : Gl X "enumerate") (hm : X.mg "enumerate" = none) (hg2 : Gl X "zip") (hm2 : X.mg "zip" = none) (ha : PA X [e, e2] ta)
    (na : starEach [.Call (.Name "zip" p2) [e, e2] [] q] X.env = [(false, eval (.Call (.Name "zip" p2) [e, e2] [] q) X.env)] := by rfl)
    (hs : starEach [e, e2] X.env = (false, eval e X.env) :: starEach [e2] X.env := by rfl) (hpl : (backTo q (starEach [e2] X.env)).any (·.1) = false := by rfl) :
    PI X (.Tuple elts kk tpos) (.Call (.Name "enumerate" p) [.Call (.Name "zip" p2) [e, e2] [] q] [] pos) (iEnumZip X.K ta) := by
  refine ⟨fun pins s σ H R I h => ?_⟩
  refine Call_ (ld_blt I hg hm boot_enumerate (PyProof.Rows.callWith_type1 (PyProof.Rows.args_cons ?_ rfl) na rfl))
  refine Call_ (ld_blt I hg2 hm2 PyProof.Rows.boot_zip (PyProof.Rows.callWith_type1 (thn (ha.run q pins s σ H _ I h) fun us s1 ⟨vs, H1, I1, r1, q1⟩ => ?_) hs hpl))
  obtain ⟨a, b, xs, ys, ex, hqx, hqy, q1⟩ := q1
  subst ex
  cases r1 with
  | cons r rr =>
    cases rr with
    | cons r' rr =>
      cases rr
      cases r
      cases r'
      obtain ⟨its, rv, p1, _⟩ := I1.list hqx
      obtain ⟨its2, rv2, p2, _⟩ := I1.list hqy
      have la : a < s1.heap.objs.size := p1.lt
      have lb : b < s1.heap.objs.size := p2.lt
      refine call_zip_2 p1.isList p2.isList fun h' hz hTI hTO h1 h2 hsz hk => PyProof.Rows.args_nil ?_
      refine call_enumerate_zip (s := { s1 with heap := h' }) hz fun h'' he hsz2 hk2 => wpAny_pyIter_enum he ?_
      replace hk2 : ∀ b o, h'.get? b = some o → h''.get? b = some o := hk2
      have I2 : Inv X pins σ H1 { s1 with heap := h'' } := I1.kept (t' := s1.toks) fun b o z => hk2 b o (hk b o z)
      have hE : h'.objs.size = s1.heap.objs.size + 5 := hsz
      have N : EZ h'.objs.size (s1.heap.objs.size + 4) (s1.heap.objs.size + 2) (s1.heap.objs.size + 3) s1.heap.objs.size (s1.heap.objs.size + 1) := by
        rw [hE]
        constructor <;> (intro z; have z' : (_ : Nat) = _ := z; omega)
      refine ⟨h'.objs.size, [h'.objs.size, s1.heap.objs.size + 4, s1.heap.objs.size + 2, s1.heap.objs.size + 3, s1.heap.objs.size, s1.heap.objs.size + 1], _, _, H1, rfl, I2, turn_enumZip (PySem.W.ktu_apart s1.heap.objs.size a b la lb) N,
        ⟨⟨.none, he⟩, ⟨.none, false, hk2 _ _ hz, .inl rfl⟩, hk2 _ _ hTI, ⟨_, _, hk2 _ _ hTO⟩, h1.at fun o q => hk2 _ o q, h2.at fun o q => hk2 _ o q⟩, fun c hcm => ?_, q1⟩
      have e' : c = h'.objs.size ∨ c = s1.heap.objs.size + 4 ∨ c = s1.heap.objs.size + 2 ∨ c = s1.heap.objs.size + 3 ∨ c = s1.heap.objs.size ∨ c = s1.heap.objs.size + 1 := by simpa using hcm
      have hle : s1.heap.objs.size ≤ c := by
        rcases e' with z | z | z | z | z | z
        · rw [z, hE]; exact Nat.le_add_right _ _
        · rw [z]; exact Nat.le_add_right _ _
        · rw [z]; exact Nat.le_add_right _ _
        · rw [z]; exact Nat.le_add_right _ _
        · rw [z]; exact Nat.le_refl _
        · rw [z]; exact Nat.le_add_right _ _
      exact I1.fpOk hle (I1.hok.fresh hle)
end Lm

/-! R18: f(k2 = b, k1 = a), a def by keywords alone. -/
namespace Lm
open PySem L2
def tCallK0 (sp : Sp) (m : Nat) (gV : List V → List V → List V) (E : XK) (tk : TA) : TE := fun σ H Q => tk σ H fun zs H2 => zs.length = m ∧ sp (gV [] zs) H2 Q E
theorem Fun.swap0 {K : PySem.W.Frag} {x qual : Str} {st : Stmt} {f : Addr} {fd : FuncData} {ps : List Str} {k1 k2 : Str} (F : Fun K x qual st f fd)
    (h : ∀ (kV doc pm : Value) (an : Option Addr) (cdv ct : Value) (b c : Value), bindArgs (PySem.W.fnOf x qual (defArgs st) (defBody st) (defScope st) .none kV doc pm an cdv ct) ⟨[], [(k2, c), (k1, b)]⟩ = pure (ps.zip [b, c])) : KBn K fd ps 0 [k2, k1] swapR swapR := by
  obtain ⟨oc, od, kV, doc, pm, an, cdv, ct, osl, rfl, lk, hcd⟩ := F.ex
  refine ⟨fun s us ws X l1 l2 => ?_, fun r1 r2 => vals_app r1 (vals_rev r2)⟩
  match us, ws, l1, l2 with
  | [], [c, b], _, _ => exact .of_eq (h kV doc pm an cdv ct b c)
section
variable {X : Cx} {k : Nat} {f : Addr} {fd : FuncData} {ps ks : List Str} {sp : Sp} {x : Str} {p pos : Pos} {kws : List Keyword} {tk : TA} {g : List Value → List Value → List Value} {gV : List V → List V → List V}
theorem pe_dK (D : DefOk X.prog X.w X.K X.mg X.base k x f fd ps sp) (hb : KBn X.K fd ps 0 ks g gV) (hr : Room k X.A) (hkw : PK X kws tk) (hg : Gl X x := by rfl) (hdb : (x == ("__debug__" : Str)) = false := by decide)
    (hall : (backToKw pos (keywordEach kws X.env)).all (·.1.isSome) = true := by rfl) (hks : (backToKw pos (keywordEach kws X.env)).filterMap (·.1) = ks := by rfl)
    (hpl : ((backTo pos (starEach [] X.env)).any (·.1) || (backToKw pos (keywordEach kws X.env)).any (·.1.isNone)) = false := by rfl) :
    PE X (.Call (.Name x p) [] kws pos) (tCallK0 sp ks.length gV E0 tk) := by
  refine ⟨fun pins s σ H Q I h => ?_⟩
  refine wpAny_Call_Name_kw (ld_glob I hg D.mg ?_ hdb)
  refine PySem.W.callWith_KW0 (h₀ := X.base) I.ok.mod.kin D.kp hall ?_ hpl
  refine thn (hkw.run pos pins s σ H _ I h) fun ws s2 ⟨zs, H2, I2, rz, l2, q2⟩ => ⟨I2.kIn, ?_⟩
  rw [hks]
  have r2 := hb.rel (vs := []) (us := []) .nil rz
  have hl : (g [] ws).length = ps.length := by rw [← r2.length]; exact D.ok.len _ _ _ _ q2
  refine wpAny_call (codeAny_mono (D.ok.run X.A X.stack s2 H2 ⟨[], ks.zip ws⟩ (g [] ws) (gV [] zs) Q E0 hr I2.env0 (hb.to s2 [] ws I2.kIn rfl (rz.length.symm.trans l2)) r2 q2) fun r s' hq => ?_)
  cases r with
  | error e => exact pass0 pins σ H2 s2 e s' I2 hq
  | ok fl =>
    cases fl with
    | ret u => exact I2.after hq
    | next => exact False.elim hq
    | brk => exact False.elim hq
    | cont => exact False.elim hq
end
end Lm

namespace Lm
open PySem L2 Evl RZ
def rIsN : R2 := fun x y H Q => y = .non ∧ Q (.bl (decide (x = .non))) H
def rNotN : R2 := fun x y H Q => y = .non ∧ Q (.bl (!decide (x = .non))) H
theorem op_isN1 {X : Cx} : OpR X (compareOp .Is) rIsN := op_isN
theorem op_notN1 {X : Cx} : OpR X (compareOp .IsNot) rNotN := op_notN
theorem pi_or {X : Cx} {tg e : Expr} {w w' : TI} (h : PI X tg e w) (h' : PI X tg e w') : PI X tg e (fun σ H R => w σ H R ∨ w' σ H R) := ⟨fun pins s σ H R I q => q.elim (h.run pins s σ H R I) (h'.run pins s σ H R I)⟩
theorem for_EZ {K : PySem.W.Frag} {a b : Addr} {xs ys : List V} {g : TG} {tb : TS} {D : Ends} {σ : L2.St} {H : Hp} (hl : xs.length = ys.length) (Pv : Nat → L2.St → Hp → Prop) (h0 : Pv 0 σ H) (hq : ∀ i σ H, Pv i σ H → SqL K H a xs ∧ SqL K H b ys)
    (hs : ∀ (i : Nat) (x y : V) (B T : Addr) (σ : L2.St) (H : Hp), xs[i]? = some x → ys[i]? = some y → Pv i σ H → H B = none → H T = none → B ≠ T → g (.ref T) σ (upd (upd H B (.tup [x, y])) T (.tup [.int (i : Nat), .ref B])) fun σ2 H2 => tb { D with nx := Pv (i + 1), ct := Pv (i + 1), bk := D.nx } σ2 H2) (hd : ∀ σ H, Pv xs.length σ H → D.nx σ H) :
    ∃ W : Nat → Nat → L2.St → Hp → Prop, (∃ m, W 0 m σ H) ∧ ∀ i m σ H, W i m σ H →
      ((Itez K a b).stop i H ∧ D.nx σ H) ∨ ((Itez K a b).go i H ∧ ∃ N : L2.St → Hp → Prop, (∀ σ' H', N σ' H' → ∃ m', m' < m ∧ W (i + 1) m' σ' H') ∧ ∀ v H', (Itez K a b).yld i H v H' → g v σ H' fun σ2 H2 => tb { D with nx := N, ct := N, bk := D.nx } σ2 H2) := by
  refine ⟨fun i m σ H => m = xs.length - i ∧ i ≤ xs.length ∧ Pv i σ H, ⟨xs.length, rfl, Nat.zero_le _, h0⟩, ?_⟩
  rintro i m σ H ⟨rfl, hi, p⟩
  obtain ⟨qx, qy⟩ := hq i σ H p
  by_cases hlt : i < xs.length
  · have hx : xs[i]? = some xs[i] := List.getElem?_eq_getElem hlt
    have hlt2 : i < ys.length := by omega
    have hy : ys[i]? = some ys[i] := List.getElem?_eq_getElem hlt2
    refine .inr ⟨⟨xs, ys, _, _, qx, qy, hx, hy⟩, Pv (i + 1), fun σ' H' p' => ⟨xs.length - (i + 1), by omega, rfl, hlt, p'⟩, fun v H' y => ?_⟩
    obtain ⟨B, T, x', y', rfl, hB, hT, hBT, rfl, f1, f2⟩ := y
    exact hs i x' y' B T σ H (f1 xs qx) (f2 ys qy) p hB hT hBT
  · have e : i = xs.length := by omega
    subst e
    exact .inl ⟨⟨xs, ys, qx, qy, Or.inl (Nat.le_refl _)⟩, hd σ H p⟩
/-- for i, (x, y) in enumerate(zip(a, b)): -/
theorem s_forEZ {K : PySem.W.Frag} {a b : Addr} {xs ys : List V} {ta : TA} {i j k : Nat} {tu : TS} {D : Ends} {σ : L2.St} {H : Hp} (h : EvA ta σ H [.ref a, .ref b]) (ha : H a = some (.lst xs)) (hb : H b = some (.lst ys)) (hl : xs.length = ys.length) (Pv : Nat → L2.St → Hp → Prop) (h0 : ∀ H1, Ex H H1 → Pv 0 σ H1)
    (hq : ∀ i σ' H', Pv i σ' H' → Ex H H') (hs : ∀ (n : Nat) (x y : V) (σ' : L2.St) (H' H2 : Hp), xs[n]? = some x → ys[n]? = some y → Pv n σ' H' → Ex H' H2 → tu { D with nx := Pv (n + 1), ct := Pv (n + 1), bk := D.nx } (((σ'.set i (some (.int (n : Nat)))).set j (some x)).set k (some y)) H2)
    (hd : ∀ σ' H', Pv xs.length σ' H' → D.nx σ' H') : tFor (iEnumZip K ta) (gTup K 2 (gCons (gName i) (gCons (gTup K 2 (gCons (gName j) (gCons (gName k) gNil))) gNil))) tu D σ H :=
  h H (Ex.refl H) _ fun H1 e => ⟨a, b, xs, ys, rfl, SqL.of (e _ _ ha), SqL.of (e _ _ hb), for_EZ hl Pv (h0 H1 e) (fun i σ' H' p => ⟨SqL.of (hq i σ' H' p _ _ ha), SqL.of (hq i σ' H' p _ _ hb)⟩) (fun n x y B T σ' H' hx hy p hB hT hBT => by
    have h1 : (upd (upd H' B (.tup [x, y])) T (.tup [.int (n : Nat), .ref B])) B = some (.tup [x, y]) := by rw [upd_ne hBT, upd_same]
    have e2 : Ex H' (upd (upd H' B (.tup [x, y])) T (.tup [.int (n : Nat), .ref B])) := Ex.trans (Ex.new hB) (Ex.new (by rw [upd_ne hBT.symm]; exact hT))
    exact ⟨T, _, rfl, SqT.of upd_same, rfl, _, _, rfl, _, _, rfl, ⟨B, _, rfl, SqT.of h1, rfl, _, _, rfl, _, _, rfl, rfl, ⟨rfl, hs n x y σ' H' _ hx hy p e2⟩⟩⟩) hd⟩
theorem q_forEZ {K : PySem.W.Frag} {a b : Addr} {xs ys : List V} {ta : TA} {i j k : Nat} {tu tz : TS} {D : Ends} {σ : L2.St} {H : Hp} (h : EvA ta σ H [.ref a, .ref b]) (ha : H a = some (.lst xs)) (hb : H b = some (.lst ys)) (hl : xs.length = ys.length) (Pv : Nat → L2.St → Hp → Prop) (h0 : ∀ H1, Ex H H1 → Pv 0 σ H1)
    (hq : ∀ i σ' H', Pv i σ' H' → Ex H H') (hs : ∀ (n : Nat) (x y : V) (σ' : L2.St) (H' H2 : Hp), xs[n]? = some x → ys[n]? = some y → Pv n σ' H' → Ex H' H2 → tu { D with nx := Pv (n + 1), ct := Pv (n + 1), bk := tz D } (((σ'.set i (some (.int (n : Nat)))).set j (some x)).set k (some y)) H2)
    (hd : ∀ σ' H', Pv xs.length σ' H' → tz D σ' H') : tSeq (tFor (iEnumZip K ta) (gTup K 2 (gCons (gName i) (gCons (gTup K 2 (gCons (gName j) (gCons (gName k) gNil))) gNil))) tu) tz D σ H := s_forEZ (D := { D with nx := tz D }) h ha hb hl Pv h0 hq hs hd
end Lm

/-! R20: zip of three lists; zip of a list and a tuple. -/
namespace Lm
open PySem PySem.Spec PyProof.Rows L2 Evl RZ
/-- the lists at a, b and c as they stand at each turn, the items in new triples -/
def Itz3 (K : PySem.W.Frag) (a b c : Addr) : It :=
  ⟨fun i H => ∃ (xs ys us : List V) (x y u : V), SqL K H a xs ∧ SqL K H b ys ∧ SqL K H c us ∧ xs[i]? = some x ∧ ys[i]? = some y ∧ us[i]? = some u,
    fun i H v H' => ∃ T x y u, v = .ref T ∧ H T = none ∧ H' = upd H T (.tup [x, y, u]) ∧ (∀ xs, SqL K H a xs → xs[i]? = some x) ∧ (∀ ys, SqL K H b ys → ys[i]? = some y) ∧ ∀ us, SqL K H c us → us[i]? = some u,
    fun i H => ∃ xs ys us : List V, SqL K H a xs ∧ SqL K H b ys ∧ SqL K H c us ∧ i ≤ xs.length ∧ i ≤ ys.length ∧ i ≤ us.length ∧ (i = xs.length ∨ i = ys.length ∨ i = us.length)⟩
theorem turn_zip3 {P : Program} {w : World} {K : PySem.W.Frag} {elts : List Expr} {kk : Nat} {tpos : Pos} {a b c z TI TO i1 i2 i3 : Addr} (S : ZipSep3 z TI TO i1 i2 i3 [i1, a] [i2, b] [i3, c]) (n1 : a ≠ i1) (n2 : b ≠ i2) (n3 : c ≠ i3) :
    Turn P w K (.Tuple elts kk tpos) (Itz3 K a b c) [z, TI, TO, i1, i2, i3] z (fun i h => IsZip h z TI TO .none ∧ IsTupOf3 h TI (.ref i1) (.ref i2) (.ref i3) ∧ (∃ x y u, IsTupOf3 h TO x y u) ∧ h.IsListIter i1 a i ∧ h.IsListIter i2 b i ∧ h.IsListIter i3 c i) where
  mem := by simp
  obj := fun i h st d hd => by
    obtain ⟨hz, hTI, ⟨x, y, u, hTO⟩, ⟨o1, e1, _, d1⟩, ⟨o2, e2, _, d2⟩, ⟨o3, e3, _, d3⟩⟩ := st
    have e' : d = z ∨ d = TI ∨ d = TO ∨ d = i1 ∨ d = i2 ∨ d = i3 := by simpa using hd
    rcases e' with q | q | q | q | q | q
    · rw [q]; exact ⟨_, hz, fun v q => nomatch q⟩
    · rw [q]; exact ⟨_, hTI, fun v q => nomatch q⟩
    · rw [q]; exact ⟨_, hTO, fun v q => nomatch q⟩
    · rw [q]; exact ⟨o1, e1, fun v q => by rw [d1] at q; cases q⟩
    · rw [q]; exact ⟨o2, e2, fun v q => by rw [d2] at q; cases q⟩
    · rw [q]; exact ⟨o3, e3, fun v q => by rw [d3] at q; cases q⟩
  keep := fun i h h' st k => by
    obtain ⟨hz, hTI, ⟨x, y, u, hTO⟩, h1, h2, h3⟩ := st
    exact ⟨k z (by simp) _ hz, k TI (by simp) _ hTI, ⟨x, y, u, k TO (by simp) _ hTO⟩, h1.at fun o q => k i1 (by simp) o q, h2.at fun o q => k i2 (by simp) o q, h3.at fun o q => k i3 (by simp) o q⟩
  item := by
    intro X hP hw hK hc i pins s σ H E I hf st hg
    subst hP hw hK
    obtain ⟨hz, hTI, ⟨x0, y0, u0, hTO⟩, h1, h2, h3⟩ := st
    obtain ⟨xs, ys, us, x, y, u, hqx, hqy, hqu, hx, hy, hu⟩ := hg
    obtain ⟨its, rv, p, _⟩ := I.list hqx
    obtain ⟨its2, rv2, p2, _⟩ := I.list hqy
    obtain ⟨its3, rv3, p3, _⟩ := I.list hqu
    obtain ⟨v1, hv1, ru1⟩ := rv.get hx
    obtain ⟨v2, hv2, ru2⟩ := rv2.get hy
    obtain ⟨v3, hv3, ru3⟩ := rv3.get hu
    have hzl : z < s.heap.objs.size := Heap.lt_size hz
    have hh : X.A.in1.handled = none := I.ok.hd hc
    have b1 : i < its.toArray.size := by simpa using (List.getElem?_eq_some_iff.mp hv1).1
    have b2 : i < its2.toArray.size := by simpa using (List.getElem?_eq_some_iff.mp hv2).1
    have b3 : i < its3.toArray.size := by simpa using (List.getElem?_eq_some_iff.mp hv3).1
    refine wpAny_pyNext_zipD3_item S (Draws.list hh i1 a n1 its.toArray) (Draws.list hh i2 b n2 its2.toArray) (Draws.list hh i3 c n3 its3.toArray) hz hTI hTO ⟨h1, p.isList⟩ ⟨h2, p2.isList⟩ ⟨h3, p3.isList⟩ b1 b2 b3 fun y1 y2 y3 h' tk q1 q2 q3 z' TO' h1' h2' h3' hT hsz hk => ?_
    have e1 : y1 = v1 := by
      have : its[i]? = some y1 := by simpa using q1
      rw [hv1] at this; exact (Option.some.inj this).symm
    have e2 : y2 = v2 := by
      have : its2[i]? = some y2 := by simpa using q2
      rw [hv2] at this; exact (Option.some.inj this).symm
    have e3 : y3 = v3 := by
      have : its3[i]? = some y3 := by simpa using q3
      rw [hv3] at this; exact (Option.some.inj this).symm
    subst e1 e2 e3
    refine ⟨_, rfl, wpAny_letOwnedTupleGo_zip (s := { s with heap := h', toks := tk }) z' fun h'' z'' sb => ?_⟩
    replace sb : Heap.SameBut z h' h'' := sb
    have hT2 : h''.get? s.heap.objs.size = some { cls := .type "tuple", data := .seq #[y1, y2, y3] } := (sb.2 _ (Nat.ne_of_gt hzl)).trans hT
    have new : ObjOk X.prog X.w (upd H s.heap.objs.size (.tup [x, y, u])) h'' s.heap.objs.size (.tup [x, y, u]) :=
      ⟨by show 3 ≤ sizeLine; decide, [y1, y2, y3], .cons ru1 (.cons ru2 (.cons ru3 .nil)), ⟨_, hT2, rfl, _, rfl⟩⟩
    have I1 : Inv X pins σ (upd H s.heap.objs.size (.tup [x, y, u])) { s with heap := h'', toks := tk } :=
      I.turnedNew (ch := [z, TI, TO, i1, i2, i3]) (fun d o hb q => (sb.2 d (fun q' => hb (by simp [q']))).trans (hk d o (fun q' => hb (by simp [q'])) (fun q' => hb (by simp [q'])) (fun q' => hb (by simp [q'])) (fun q' => hb (by simp [q'])) (fun q' => hb (by simp [q'])) q)) hf (Nat.le_refl _) new
    refine ⟨.ref s.heap.objs.size, _, I1, rfl, ⟨_, x, y, u, rfl, I.hok.fresh (Nat.le_refl _), rfl, fun l hl => by rw [I.list_inj hl hqx]; exact hx, fun l hl => by rw [I.list_inj hl hqy]; exact hy, fun l hl => by rw [I.list_inj hl hqu]; exact hu⟩,
      ⟨z'', ?_, ⟨y1, y2, y3, ?_⟩, ?_, ?_, ?_⟩, fun d hdm => ?_⟩
    · exact (sb.2 _ S.TIz).trans (hk _ _ S.TIz S.TITO S.TIi1 S.TIi2 S.TIi3 hTI)
    · exact (sb.2 _ S.TOz).trans TO'
    · exact h1'.1.at fun o q => (sb.2 _ S.zi1.symm).trans q
    · exact h2'.1.at fun o q => (sb.2 _ S.zi2.symm).trans q
    · exact h3'.1.at fun o q => (sb.2 _ S.zi3.symm).trans q
    · have hlt : d < s.heap.objs.size := by
        have e' : d = z ∨ d = TI ∨ d = TO ∨ d = i1 ∨ d = i2 ∨ d = i3 := by simpa using hdm
        rcases e' with q | q | q | q | q | q
        · rw [q]; exact hzl
        · rw [q]; exact Heap.lt_size hTI
        · rw [q]; exact Heap.lt_size hTO
        · rw [q]; obtain ⟨_, e1, _⟩ := h1; exact Heap.lt_size e1
        · rw [q]; obtain ⟨_, e2, _⟩ := h2; exact Heap.lt_size e2
        · rw [q]; obtain ⟨_, e3, _⟩ := h3; exact Heap.lt_size e3
      rw [upd_ne (Nat.ne_of_lt hlt)]
      exact (hf d hdm).1
  done := by
    intro X hP hw hK hc i pins s σ H E I hf st hg
    subst hP hw hK
    obtain ⟨hz, hTI, ⟨x0, y0, u0, hTO⟩, h1, h2, h3⟩ := st
    obtain ⟨xs, ys, us, hqx, hqy, hqu, l1, l2, l3, hend⟩ := hg
    obtain ⟨its, rv, p, _⟩ := I.list hqx
    obtain ⟨its2, rv2, p2, _⟩ := I.list hqy
    obtain ⟨its3, rv3, p3, _⟩ := I.list hqu
    have m1 : its.toArray.size = xs.length := by simpa using rv.length.symm
    have m2 : its2.toArray.size = ys.length := by simpa using rv2.length.symm
    have m3 : its3.toArray.size = us.length := by simpa using rv3.length.symm
    have hh : X.A.in1.handled = none := I.ok.hd hc
    exact wpAny_pyNext_zipD3_end S (Draws.list hh i1 a n1 its.toArray) (Draws.list hh i2 b n2 its2.toArray) (Draws.list hh i3 c n3 its3.toArray) hz hTI hTO ⟨h1, p.isList⟩ ⟨h2, p2.isList⟩ ⟨h3, p3.isList⟩ (by omega) (by omega) (by omega) (by omega)
      fun h' tk hk => ⟨rfl, I.turnedL (t' := tk) (ch := [z, TI, TO, i1, i2, i3]) (fun d o hb q => hk d o (fun q' => hb (by simp [q'])) (fun q' => hb (by simp [q'])) (fun q' => hb (by simp [q'])) (fun q' => hb (by simp [q'])) (fun q' => hb (by simp [q'])) q) hf⟩
  self := fun A i s Q E st h => wpAny_pyIter_zip st.1 h
def iZip3 (K : PySem.W.Frag) (ta : TA) : TI := fun σ H R => ta σ H fun vs H1 => ∃ a b c xs ys us, vs = [.ref a, .ref b, .ref c] ∧ SqL K H1 a xs ∧ SqL K H1 b ys ∧ SqL K H1 c us ∧ R (Itz3 K a b c) H1
theorem pi_zip3 {X : Cx} {e e2 e3 : Expr} {ta : TA} {p pos tpos : Pos} {elts : List Expr} {kk : Nat} (hg : Gl X "zip") (hm : X.mg "zip" = none) (ha : PA X [e, e2, e3] ta)
    (hs : starEach [e, e2, e3] X.env = (false, eval e X.env) :: starEach [e2, e3] X.env := by rfl) (hpl : (backTo pos (starEach [e2, e3] X.env)).any (·.1) = false := by rfl) :
    PI X (.Tuple elts kk tpos) (.Call (.Name "zip" p) [e, e2, e3] [] pos) (iZip3 X.K ta) := by
  refine ⟨fun pins s σ H R I h => ?_⟩
  refine Call_ (ld_blt I hg hm PyProof.Rows.boot_zip (PyProof.Rows.callWith_type1 (thn (ha.run pos pins s σ H _ I h) fun us s1 ⟨vs, H1, I1, r1, q1⟩ => ?_) hs hpl))
  obtain ⟨a, b, c, xs, ys, zs, ex, hqx, hqy, hqz, q⟩ := q1
  subst ex
  cases r1 with
  | cons r rr =>
    cases rr with
    | cons r' rr =>
      cases rr with
      | cons r'' rr =>
        cases rr
        cases r
        cases r'
        cases r''
        obtain ⟨its, rv, p1, _⟩ := I1.list hqx
        obtain ⟨its2, rv2, p2, _⟩ := I1.list hqy
        obtain ⟨its3, rv3, p3, _⟩ := I1.list hqz
        have la : a < s1.heap.objs.size := p1.lt
        have lb : b < s1.heap.objs.size := p2.lt
        have lc : c < s1.heap.objs.size := p3.lt
        refine zip_begins3 (begins_list a its.toArray) (begins_list b its2.toArray) (begins_list c its3.toArray) p1.isList p2.isList p3.isList fun h' hz hTI hTO h1 h2 h3 hsz hk => wpAny_pyIter_zip hz ?_
        have I2 : Inv X pins σ H1 { s1 with heap := h' } := I1.kept (t' := s1.toks) hk
        have one : ∀ (d N : Addr), d < N → ∀ x ∈ [d], x < N := fun d N hd x hx => by rw [List.mem_singleton.mp hx]; exact hd
        refine ⟨s1.heap.objs.size + 5, [s1.heap.objs.size + 5, s1.heap.objs.size + 3, s1.heap.objs.size + 4, s1.heap.objs.size, s1.heap.objs.size + 1, s1.heap.objs.size + 2], _, _, H1, rfl, I2,
          turn_zip3 (zip_sep3 (fp1 := [a]) (fp2 := [b]) (fp3 := [c]) (one _ _ la) (one _ _ lb) (one _ _ lc)) (Nat.ne_of_lt la) (Nat.ne_of_lt (Nat.lt_succ_of_lt lb)) (Nat.ne_of_lt (Nat.lt_succ_of_lt (Nat.lt_succ_of_lt lc))), ⟨hz, hTI, ⟨_, _, _, hTO⟩, ⟨_, h1, rfl, rfl⟩, ⟨_, h2, rfl, rfl⟩, ⟨_, h3, rfl, rfl⟩⟩, fun d hdm => ?_, q⟩
        have e' : d = s1.heap.objs.size + 5 ∨ d = s1.heap.objs.size + 3 ∨ d = s1.heap.objs.size + 4 ∨ d = s1.heap.objs.size ∨ d = s1.heap.objs.size + 1 ∨ d = s1.heap.objs.size + 2 := by simpa using hdm
        have hle : s1.heap.objs.size ≤ d := by
          rcases e' with z | z | z | z | z | z
          · rw [z]; exact Nat.le_add_right _ _
          · rw [z]; exact Nat.le_add_right _ _
          · rw [z]; exact Nat.le_add_right _ _
          · rw [z]; exact Nat.le_refl _
          · rw [z]; exact Nat.le_add_right _ _
          · rw [z]; exact Nat.le_add_right _ _
        exact I1.fpOk hle (I1.hok.fresh hle)
/-! ### a list and a tuple -/
def ItzM (K : PySem.W.Frag) (a b : Addr) : It :=
  ⟨fun i H => ∃ (xs ys : List V) (x y : V), SqL K H a xs ∧ SqT K H b ys ∧ xs[i]? = some x ∧ ys[i]? = some y,
    fun i H v H' => ∃ T x y, v = .ref T ∧ H T = none ∧ H' = upd H T (.tup [x, y]) ∧ (∀ xs, SqL K H a xs → xs[i]? = some x) ∧ ∀ ys, SqT K H b ys → ys[i]? = some y,
    fun i H => ∃ xs ys : List V, SqL K H a xs ∧ SqT K H b ys ∧ i ≤ xs.length ∧ i ≤ ys.length ∧ (i = xs.length ∨ i = ys.length)⟩
theorem turn_zipM {P : Program} {w : World} {K : PySem.W.Frag} {elts : List Expr} {kk : Nat} {tpos : Pos} {a b z TI TO i1 i2 : Addr} (S : ZipSep2 z TI TO i1 i2 [i1, a] [i2, b]) (n1 : a ≠ i1) (n2 : b ≠ i2) :
    Turn P w K (.Tuple elts kk tpos) (ItzM K a b) [z, TI, TO, i1, i2] z (fun i h => IsZip h z TI TO .none ∧ IsTupOf2 h TI (.ref i1) (.ref i2) ∧ (∃ x y, IsTupOf2 h TO x y) ∧ h.IsListIter i1 a i ∧ h.IsTupleIter i2 b i) where
  mem := by simp
  obj := fun i h st d hd => by
    obtain ⟨hz, hTI, ⟨x, y, hTO⟩, ⟨o1, e1, _, d1⟩, ⟨o2, e2, _, d2⟩⟩ := st
    have e' : d = z ∨ d = TI ∨ d = TO ∨ d = i1 ∨ d = i2 := by simpa using hd
    rcases e' with q | q | q | q | q
    · rw [q]; exact ⟨_, hz, fun v q => nomatch q⟩
    · rw [q]; exact ⟨_, hTI, fun v q => nomatch q⟩
    · rw [q]; exact ⟨_, hTO, fun v q => nomatch q⟩
    · rw [q]; exact ⟨o1, e1, fun v q => by rw [d1] at q; cases q⟩
    · rw [q]; exact ⟨o2, e2, fun v q => by rw [d2] at q; cases q⟩
  keep := fun i h h' st k => by
    obtain ⟨hz, hTI, ⟨x, y, hTO⟩, h1, h2⟩ := st
    exact ⟨k z (by simp) _ hz, k TI (by simp) _ hTI, ⟨x, y, k TO (by simp) _ hTO⟩, h1.at fun o q => k i1 (by simp) o q, h2.at fun o q => k i2 (by simp) o q⟩
  item := by
    intro X hP hw hK hc i pins s σ H E I hf st hg
    subst hP hw hK
    obtain ⟨hz, hTI, ⟨x0, y0, hTO⟩, h1, h2⟩ := st
    obtain ⟨xs, ys, x, y, hqx, hqy, hx, hy⟩ := hg
    obtain ⟨its, rv, p, _⟩ := I.list hqx
    obtain ⟨its2, rv2, p2, _⟩ := I.tuple hqy
    obtain ⟨v1, hv1, ru1⟩ := rv.get hx
    obtain ⟨v2, hv2, ru2⟩ := rv2.get hy
    have hzl : z < s.heap.objs.size := Heap.lt_size hz
    have hh : X.A.in1.handled = none := I.ok.hd hc
    have b1 : i < its.toArray.size := by simpa using (List.getElem?_eq_some_iff.mp hv1).1
    have b2 : i < its2.toArray.size := by simpa using (List.getElem?_eq_some_iff.mp hv2).1
    refine wpAny_pyNext_zipD2_item S (Draws.list hh i1 a n1 its.toArray) (Draws.tuple hh i2 b n2 its2.toArray) hz hTI hTO ⟨h1, p.isList⟩ ⟨h2, p2⟩ b1 b2 fun y1 y2 h' tk q1 q2 z' TO' h1' h2' hT hsz hk => ?_
    have e1 : y1 = v1 := by
      have : its[i]? = some y1 := by simpa using q1
      rw [hv1] at this; exact (Option.some.inj this).symm
    have e2 : y2 = v2 := by
      have : its2[i]? = some y2 := by simpa using q2
      rw [hv2] at this; exact (Option.some.inj this).symm
    subst e1 e2
    refine ⟨_, rfl, wpAny_letOwnedTupleGo_zip (s := { s with heap := h', toks := tk }) z' fun h'' z'' sb => ?_⟩
    replace sb : Heap.SameBut z h' h'' := sb
    have hT2 : h''.get? s.heap.objs.size = some { cls := .type "tuple", data := .seq #[y1, y2] } := (sb.2 _ (Nat.ne_of_gt hzl)).trans hT
    have new : ObjOk X.prog X.w (upd H s.heap.objs.size (.tup [x, y])) h'' s.heap.objs.size (.tup [x, y]) :=
      ⟨by show 2 ≤ sizeLine; decide, [y1, y2], .cons ru1 (.cons ru2 .nil), ⟨_, hT2, rfl, _, rfl⟩⟩
    have I1 : Inv X pins σ (upd H s.heap.objs.size (.tup [x, y])) { s with heap := h'', toks := tk } :=
      I.turnedNew (ch := [z, TI, TO, i1, i2]) (fun d o hb q => (sb.2 d (fun q' => hb (by simp [q']))).trans (hk d o (fun q' => hb (by simp [q'])) (fun q' => hb (by simp [q'])) (fun q' => hb (by simp [q'])) (fun q' => hb (by simp [q'])) q)) hf (Nat.le_refl _) new
    refine ⟨.ref s.heap.objs.size, _, I1, rfl, ⟨_, x, y, rfl, I.hok.fresh (Nat.le_refl _), rfl, fun l hl => by rw [I.list_inj hl hqx]; exact hx, fun l hl => by rw [I.tuple_inj hl hqy]; exact hy⟩,
      ⟨z'', ?_, ⟨y1, y2, ?_⟩, ?_, ?_⟩, fun d hdm => ?_⟩
    · exact (sb.2 _ S.TIz).trans (hk _ _ S.TIz S.TITO S.TIi1 S.TIi2 hTI)
    · exact (sb.2 _ S.TOz).trans TO'
    · exact h1'.1.at fun o q => (sb.2 _ S.zi1.symm).trans q
    · exact h2'.1.at fun o q => (sb.2 _ S.zi2.symm).trans q
    · have hlt : d < s.heap.objs.size := by
        have e' : d = z ∨ d = TI ∨ d = TO ∨ d = i1 ∨ d = i2 := by simpa using hdm
        rcases e' with q | q | q | q | q
        · rw [q]; exact hzl
        · rw [q]; exact Heap.lt_size hTI
        · rw [q]; exact Heap.lt_size hTO
        · rw [q]; obtain ⟨_, e1, _⟩ := h1; exact Heap.lt_size e1
        · rw [q]; obtain ⟨_, e2, _⟩ := h2; exact Heap.lt_size e2
      rw [upd_ne (Nat.ne_of_lt hlt)]
      exact (hf d hdm).1
  done := by
    intro X hP hw hK hc i pins s σ H E I hf st hg
    subst hP hw hK
    obtain ⟨hz, hTI, ⟨x0, y0, hTO⟩, h1, h2⟩ := st
    obtain ⟨xs, ys, hqx, hqy, l1, l2, hend⟩ := hg
    obtain ⟨its, rv, p, _⟩ := I.list hqx
    obtain ⟨its2, rv2, p2, _⟩ := I.tuple hqy
    have m1 : its.toArray.size = xs.length := by simpa using rv.length.symm
    have m2 : its2.toArray.size = ys.length := by simpa using rv2.length.symm
    have hh : X.A.in1.handled = none := I.ok.hd hc
    exact wpAny_pyNext_zipD2_end S (Draws.list hh i1 a n1 its.toArray) (Draws.tuple hh i2 b n2 its2.toArray) hz hTI hTO ⟨h1, p.isList⟩ ⟨h2, p2⟩ (by omega) (by omega) (by omega)
      fun h' tk hk => ⟨rfl, I.turnedL (t' := tk) (ch := [z, TI, TO, i1, i2]) (fun d o hb q => hk d o (fun q' => hb (by simp [q'])) (fun q' => hb (by simp [q'])) (fun q' => hb (by simp [q'])) (fun q' => hb (by simp [q'])) q) hf⟩
  self := fun A i s Q E st h => wpAny_pyIter_zip st.1 h
def iZipM (K : PySem.W.Frag) (ta : TA) : TI := fun σ H R => ta σ H fun vs H1 => ∃ a b xs ys, vs = [.ref a, .ref b] ∧ SqL K H1 a xs ∧ SqT K H1 b ys ∧ R (ItzM K a b) H1
theorem pi_zipM {X : Cx} {e e2 : Expr} {ta : TA} {p pos tpos : Pos} {elts : List Expr} {kk : Nat} (hg : Gl X "zip") (hm : X.mg "zip" = none) (ha : PA X [e, e2] ta)
    (hs : starEach [e, e2] X.env = (false, eval e X.env) :: starEach [e2] X.env := by rfl) (hpl : (backTo pos (starEach [e2] X.env)).any (·.1) = false := by rfl) :
    PI X (.Tuple elts kk tpos) (.Call (.Name "zip" p) [e, e2] [] pos) (iZipM X.K ta) := by
  refine ⟨fun pins s σ H R I h => ?_⟩
  refine Call_ (ld_blt I hg hm PyProof.Rows.boot_zip (PyProof.Rows.callWith_type1 (thn (ha.run pos pins s σ H _ I h) fun us s1 ⟨vs, H1, I1, r1, q1⟩ => ?_) hs hpl))
  obtain ⟨a, b, xs, ys, ex, hqx, hqy, q⟩ := q1
  subst ex
  cases r1 with
  | cons r rr =>
    cases rr with
    | cons r' rr =>
      cases rr
      cases r
      cases r'
      obtain ⟨its, rv, p1, _⟩ := I1.list hqx
      obtain ⟨its2, rv2, p2, _⟩ := I1.tuple hqy
      obtain ⟨o2, ho2, _⟩ := id p2
      have la : a < s1.heap.objs.size := p1.lt
      have lb : b < s1.heap.objs.size := Heap.lt_size ho2
      refine zip_begins2 (begins_list a its.toArray) (begins_tuple b its2.toArray) p1.isList p2 fun h' hz hTI hTO h1 h2 hsz hk => wpAny_pyIter_zip hz ?_
      have I2 : Inv X pins σ H1 { s1 with heap := h' } := I1.kept (t' := s1.toks) hk
      have one : ∀ (d N : Addr), d < N → ∀ x ∈ [d], x < N := fun d N hd x hx => by rw [List.mem_singleton.mp hx]; exact hd
      refine ⟨s1.heap.objs.size + 4, [s1.heap.objs.size + 4, s1.heap.objs.size + 2, s1.heap.objs.size + 3, s1.heap.objs.size, s1.heap.objs.size + 1], _, _, H1, rfl, I2,
        turn_zipM (zip_sep2 (fp1 := [a]) (fp2 := [b]) (one _ _ la) (one _ _ lb)) (Nat.ne_of_lt la) (Nat.ne_of_lt (Nat.lt_succ_of_lt lb)), ⟨hz, hTI, ⟨_, _, hTO⟩, ⟨_, h1, rfl, rfl⟩, ⟨_, h2, rfl, rfl⟩⟩, fun d hdm => ?_, q⟩
      have e' : d = s1.heap.objs.size + 4 ∨ d = s1.heap.objs.size + 2 ∨ d = s1.heap.objs.size + 3 ∨ d = s1.heap.objs.size ∨ d = s1.heap.objs.size + 1 := by simpa using hdm
      have hle : s1.heap.objs.size ≤ d := by
        rcases e' with z | z | z | z | z
        · rw [z]; exact Nat.le_add_right _ _
        · rw [z]; exact Nat.le_add_right _ _
        · rw [z]; exact Nat.le_add_right _ _
        · rw [z]; exact Nat.le_refl _
        · rw [z]; exact Nat.le_add_right _ _
      exact I1.fpOk hle (I1.hok.fresh hle)
end Lm

namespace Lm
open PySem L2 LamX NdefX PySem.Spec PyProof.Rows
/-! ### a def within a def, handed to another def that calls it -/
theorem CellsAt.un {cl : List (Str × Addr)} {fr : List Str} {ws : List (Option V)} {h h1 : Heap} {H H1 : Hp} {fs : List Addr} (C : CellsAt cl fr ws h H) (un : Un fs [] H H1 h h1) : CellsAt cl fr ws h1 H1 := by
  have kp : ∀ y c, cl.lookup y = some c → ∀ v, h.IsCell c v → h1.IsCell c v := fun y c e v ⟨o, ho, hd⟩ => by
    obtain ⟨sl, q⟩ := un.any ho (C.all y c e).1 (by simp)
    exact ⟨_, q, hd⟩
  refine ⟨C.len, fun y c e => ?_, C.inj, fun i y e => ?_⟩
  · obtain ⟨n, v, z⟩ := C.all y c e
    obtain ⟨o, ho, hd⟩ := id z
    exact ⟨un.free c o ho n (by simp), v, kp y c e v z⟩
  · obtain ⟨c, hc, hv⟩ := C.has i y e
    refine ⟨c, hc, fun v ev => ?_⟩
    obtain ⟨u, r, z⟩ := hv v ev
    exact ⟨u, r, kp y c hc _ z⟩
/-- f(..), f a parameter that holds the function F made by a caller; ws: what its cells hold -/
def tCallH (F : NF) (f : Addr) (ws : List (Option V)) (i : Nat) (sp : List (Option V) → Sp) (E : XK) (t : TA) : TE := fun σ H Q => σ[i]? = some (some (.ref f)) ∧ H f = some (FnO f F) ∧
  t σ H fun vs H1 => H1 f = some (FnO f F) ∧ H1 F.c = some (CodeO F.c F.qual) ∧ sp ws vs H1 Q E
theorem pe_callh {Z : Cx} {CX : CXT} {F : NF} {ps fr : List Str} {ws : List (Option V)} {i k : Nat} {x : Str} {f : Addr} {sp : List (Option V) → Sp} {E : XK} {t : TA} {e : Expr} {es : List Expr} {p pos : Pos}
    (Fn : NOk Z.prog Z.w Z.K Z.mg Z.base CX k f F ps fr sp) (C : ∀ pins σ H s, Inv Z pins σ H s → CellsAt F.cl fr ws s.heap H) (hr : Room k Z.A) (hx : Passes CX Z E) (hN : Z.N[i]? = some x) (hv : Vis Z.env.scope x) (ha : PA Z (e :: es) t)
    (hd : (x == ("__debug__" : Str)) = false := by decide) (hcd : (x == ("__classdict__" : Str)) = false := by decide)
    (he : starEach (e :: es) Z.env = (false, eval e Z.env) :: starEach es Z.env := by rfl) (hpl : (backTo pos (starEach es Z.env)).any (·.1) = false := by rfl) :
    PE Z (.Call (.Name x p) (e :: es) [] pos) (tCallH F f ws i sp E t) := by
  refine ⟨fun pins s σ H Q I h => ?_⟩
  obtain ⟨hs, hf, ht⟩ := h
  refine wpAny_Call_Name_kw (thn ((pe_var (pos := p) hN hv hd hcd).run pins s σ H (fun v H1 => v = .ref f ∧ H1 = H) I ⟨.ref f, hs, rfl, rfl⟩) fun u s1 ⟨v, H1, I1, r1, q1⟩ => ?_)
  obtain ⟨ev, eH⟩ := q1
  subst ev
  rw [eH] at I1
  obtain rfl : u = Value.ref f := r1
  refine PySem.W.callWith_F (first := []) (fnAt_of I1 hf) (thn (ha.run pos pins s1 σ H _ I1 ht) fun us s2 ⟨vs, H2, I2, r, h1, h2, q⟩ => ⟨fnAt_of I2 h1, ?_⟩) he hpl
  show wpAny _ _ (call (.ref f) us) _ _ _
  refine wpAny_call (codeAny_mono (Fn.run Z.A Z.stack s2 H2 us vs _ Q E hr I2.env0 h1 h2 (C _ _ _ _ I2) r q) fun r s' hq => ?_)
  cases r with
  | error e => exact hx pins σ H2 s2 e s' I2 hq
  | ok fl =>
    cases fl with
    | ret u => exact I2.after hq
    | next => exact False.elim hq
    | brk => exact False.elim hq
    | cont => exact False.elim hq
/-- x(e, g), g a function that was made here -/
def tHand (mk : Addr → NF) (js : List Nat) (t : TA) (TT : Addr → Addr → List (Option V) → V → Hp → VK → Prop) : TE := fun σ H Q => t σ H fun vs H1 => ∃ v f c', vs = [v, .ref f] ∧ H1 f = some (FnO f (mk c')) ∧ TT f c' (js.map (slotAt σ)) v H1 Q
/-- the def that got a thing and a function -/
def GivesN (X : Cx) (Ng : List Str) (x : Str) (sg : Scope) (g : Addr) (cdg : Value) (bg : List Stmt) (mk : Addr → NF) (fr : List Str) (k : Nat) (TT : Addr → Addr → List (Option V) → V → Hp → VK → Prop) : Prop :=
  ∀ (f c' : Addr) (ws : List (Option V)) (v : V) (s : Shared) (H : Hp) (Q : VK), Room k (X.A.deeper (envOfC x sg s.heap.objs.size g cdg)) → (∀ pins σ H' s', Inv (cxOf C8.CX0 X.prog X.w X.K X.mg X.base Ng x sg g cdg X.A X.stack s H C8.E0).nox pins σ H' s' → CellsAt (mk c').cl fr ws s'.heap H') →
    H f = some (FnO f (mk c')) → TT f c' ws v H Q → ∃ t, PSs (cxOf C8.CX0 X.prog X.w X.K X.mg X.base Ng x sg g cdg X.A X.stack s H C8.E0).nox bg t ∧ t { nx := fun _ H' => Q .non H', rt := Q } (L2.start Ng [v, .ref f]) H
theorem pe_hand {X : Cx} {mk : Addr → NF} {cl : List (Str × Addr)} {fr : List Str} {js : List Nat} {TT : Addr → Addr → List (Option V) → V → Hp → VK → Prop} {x a1 a2 : Str} {g : Addr} {k : Nat} {pg : Arguments} {bg : List Stmt} {sg : Scope} {dV kV doc pm cdv ct oc : Value} {an od : Option Addr} {osl : Array (Option Value)} {Ng : List Str} {e1 e2 : Expr} {t : TA} {p pos : Pos}
    (hg : Gl X x) (hm : X.mg x = some (.ref g)) (hk : PySem.W.keepIn X.K (.ref g) = true) (lk : X.K.lookup g = some ⟨oc, od, .func (PySem.W.fnOf x x pg bg sg dV kV doc pm an cdv ct), osl⟩) (hcg : PySem.W.codeIn X.K cdv x = true)
    (hb : L2.Binds X.K (PySem.W.fnOf x x pg bg sg dV kV doc pm an cdv ct) [a1, a2] []) (Sg : FnScope Ng [a1, a2] sg) (hG : GivesN X Ng x sg g cdv bg mk fr k TT) (hcl : ∀ c', (mk c').cl = cl) (cp : X.Ok → Caps X cl fr js) (hr : Room (k + 1) X.A) (ha : PA X [e1, e2] t)
    (hdb : (x == ("__debug__" : Str)) = false := by decide) (hst : starEach [e1, e2] X.env = (false, eval e1 X.env) :: starEach [e2] X.env := by rfl) (hpl : (backTo pos (starEach [e2] X.env)).any (·.1) = false := by rfl) :
    PE X (.Call (.Name x p) [e1, e2] [] pos) (tHand mk js t TT) := by
  refine ⟨fun pins s σ H Q I h => ?_⟩
  refine wpAny_Call_Name_kw (ld_glob I hg hm ?_ hdb)
  refine PySem.W.callWith_K (h₀ := X.base) I.ok.mod.kin hk (thn (ha.run pos pins s σ H _ I h) fun us s1 ⟨vs, H1, I1, r, v, f, c', evs, hf, ht⟩ => ⟨I1.kIn, ?_⟩) hst hpl
  subst evs
  have rc : codeAny (model X.prog X.w) X.A (.call (.ref g) ⟨us, []⟩) (CR C8.CX0 X.stack X.prog X.w H1 s1 Q C8.E0) s1 := by
    refine run_ofS (N := Ng) (ps := [a1, a2]) (us := us) (vs := [v, .ref f]) lk hcg Sg hr I1.env0 (by
      have q := hb s1 us I1.kIn (by rw [List.append_nil, ← r.length]; rfl)
      rw [List.append_nil] at q
      exact q) r rfl fun hr' => ?_
    have C0 := cells_of I1 (cp I1.ok)
    obtain ⟨t', ht', hq'⟩ := hG f c' (js.map (slotAt σ)) v s1 H1 Q hr' (fun pins2 σ2 H2 s2 I2 => by rw [hcl]; exact CellsAt.un C0 I2.base) hf ht
    exact ⟨t', ht'.nox, hq'⟩
  refine wpAny_call (codeAny_mono rc fun r s2 hq => ?_)
  cases r with
  | error e => exact (show False from hq).elim
  | ok fl =>
    cases fl with
    | ret u => exact I1.after hq
    | next => exact False.elim hq
    | brk => exact False.elim hq
    | cont => exact False.elim hq
end Lm

namespace Lm
open PySem L2
/-! ### a list of anything against [] -/
def rNeE (K : PySem.W.Frag) : R2 := fun x y H Q => ∃ a b xs, x = .ref a ∧ y = .ref b ∧ SqL K H a xs ∧ SqL K H b [] ∧ Q (.bl (!decide (xs = []))) H
theorem op_neE {X : Cx} (hu : X.A.units + 64 < PySem.cLine) : OpR X (compareOp .NotEq) (rNeE X.K) := by
  intro pins s σ H x y v u Q I rx ry h
  obtain ⟨a, b, xs, rfl, rfl, ha, hb, q⟩ := h
  cases (show v = Value.ref a from rx)
  cases (show u = Value.ref b from ry)
  obtain ⟨us, r1, p1, _⟩ := I.list ha
  obtain ⟨ws, r2, p2, _⟩ := I.list hb
  have hw : ws = [] := List.length_eq_zero_iff.mp r2.length.symm
  subst hw
  by_cases hx : xs = []
  · subst hx
    have hu' : us = [] := List.length_eq_zero_iff.mp r1.length.symm
    subst hu'
    refine PySem.SeqAt.RcNeAt.lists (e := fun _ => true) p1.isList p2.isList rfl (by omega) (fun j h1 h2 => (Nat.not_lt_zero _ h1).elim) _ _ _ _ ?_
    exact ⟨.bl false, H, I, rfl, q⟩
  · have hl : us.length ≠ 0 := fun z => hx (List.length_eq_zero_iff.mp (by rw [r1.length]; exact z))
    refine PySem.SeqAt.RcNeAt.lists_lengths p1.isList p2.isList ?_ (by omega) _ _ _ _ ?_
    · rw [bne_iff_ne]
      simpa using hl
    · refine ⟨.bl true, H, I, rfl, ?_⟩
      rw [decide_eq_false hx] at q
      exact q
end Lm

namespace Lm
open PySem L2 PySem.Spec PyProof.Rows
/-! ### C.m(), m a static method of the class at C -/
structure SMet (K : PySem.W.Frag) (C : Addr) (mc : Value) (m : Str) (p g : Addr) : Prop where
  rd : PySem.W.readsIn K C mc = true
  ga : PySem.W.specialIn K (.ref C) "__getattribute__" = some (some (.builtin "type.__getattribute__"))
  at_ : PySem.W.findCls K (.ref C) mc m = some (.get (.builtin "staticmethod.__get__") (.ref p) .none (.ref C))
  rc : ∃ rest, PySem.W.recIn K p "staticmethod" = some (.ref g :: rest)
  kp : PySem.W.keepIn K (.ref g) = true
def tSMeth (C : Addr) (sp : Sp) (E : XK) (ta : TE) : TE := fun σ H Q => ta σ H fun x H1 => x = .ref C ∧ sp [] H1 Q E
theorem pe_smeth0 {X : Cx} {CX : CXT} {k : Nat} {C p g : Addr} {mc : Value} {m : Str} {sp : Sp} {E : XK} {fd : FuncData} {o : Expr} {pos apos : Pos} {ta : TE} {pl : Sem Bool} (F : FnOk X.prog X.w X.K X.mg X.base CX k g fd [] sp) (c : SMet X.K C mc m p g) (hb : L2.Binds X.K fd [] []) (hr : Room k X.A) (hx : Passes CX X E) (he : PE X o ta)
    (ht : eval (.Call (.Attribute o m apos) [] [] pos) X.env = (do
      let ov ← eval o X.env
      standAt apos.atName
      let (f, first) ← holding [ov] (getMethod ov m pl)
      callWith pos f first (backTo pos (starEach [] X.env)) (backToKw pos (keywordEach [] X.env))) := by rfl) : PE X (.Call (.Attribute o m apos) [] [] pos) (tSMeth C sp E ta) := by
  refine ⟨fun pins s σ H Q I h => ?_⟩
  refine PySem.W.methodCall_KW (pl := pl) (thn (he.run pins s σ H _ I h) fun u s1 ⟨x, H1, I1, rx, ex, q⟩ => ?_) ht
  subst ex
  obtain rfl : u = Value.ref C := rx
  obtain ⟨rest, hp⟩ := c.rc
  refine PySem.W.method_cls I1.kIn c.ga (PySem.W.cls_bind I1.kIn c.rd c.at_ (wpAny_call (PySem.W.sm_get (s := { s1 with toks := s1.toks + 1 }) I1.kIn hp (PySem.W.handed_on rfl ?_))))
  have I2 := I1.tok (t := s1.toks + 1)
  exact PySem.W.callWith_K0 I2.kIn c.kp (run_fn (us := []) (vs := []) F hr hb .nil hx I2 .nil q)
end Lm

namespace Lm
open PySem PySem.Spec PyProof.Rows L2 Evl RZ
/-! ### a tuple and a list -/
def ItzN (K : PySem.W.Frag) (a b : Addr) : It :=
  ⟨fun i H => ∃ (xs ys : List V) (x y : V), SqT K H a xs ∧ SqL K H b ys ∧ xs[i]? = some x ∧ ys[i]? = some y,
    fun i H v H' => ∃ T x y, v = .ref T ∧ H T = none ∧ H' = upd H T (.tup [x, y]) ∧ (∀ xs, SqT K H a xs → xs[i]? = some x) ∧ ∀ ys, SqL K H b ys → ys[i]? = some y,
    fun i H => ∃ xs ys : List V, SqT K H a xs ∧ SqL K H b ys ∧ i ≤ xs.length ∧ i ≤ ys.length ∧ (i = xs.length ∨ i = ys.length)⟩
theorem turn_zipN {P : Program} {w : World} {K : PySem.W.Frag} {elts : List Expr} {kk : Nat} {tpos : Pos} {a b z TI TO i1 i2 : Addr} (S : ZipSep2 z TI TO i1 i2 [i1, a] [i2, b]) (n1 : a ≠ i1) (n2 : b ≠ i2) :
    Turn P w K (.Tuple elts kk tpos) (ItzN K a b) [z, TI, TO, i1, i2] z (fun i h => IsZip h z TI TO .none ∧ IsTupOf2 h TI (.ref i1) (.ref i2) ∧ (∃ x y, IsTupOf2 h TO x y) ∧ h.IsTupleIter i1 a i ∧ h.IsListIter i2 b i) where
  mem := by simp
  obj := fun i h st d hd => by
    obtain ⟨hz, hTI, ⟨x, y, hTO⟩, ⟨o1, e1, _, d1⟩, ⟨o2, e2, _, d2⟩⟩ := st
    have e' : d = z ∨ d = TI ∨ d = TO ∨ d = i1 ∨ d = i2 := by simpa using hd
    rcases e' with q | q | q | q | q
    · rw [q]; exact ⟨_, hz, fun v q => nomatch q⟩
    · rw [q]; exact ⟨_, hTI, fun v q => nomatch q⟩
    · rw [q]; exact ⟨_, hTO, fun v q => nomatch q⟩
    · rw [q]; exact ⟨o1, e1, fun v q => by rw [d1] at q; cases q⟩
    · rw [q]; exact ⟨o2, e2, fun v q => by rw [d2] at q; cases q⟩
  keep := fun i h h' st k => by
    obtain ⟨hz, hTI, ⟨x, y, hTO⟩, h1, h2⟩ := st
    exact ⟨k z (by simp) _ hz, k TI (by simp) _ hTI, ⟨x, y, k TO (by simp) _ hTO⟩, h1.at fun o q => k i1 (by simp) o q, h2.at fun o q => k i2 (by simp) o q⟩
  item := by
    intro X hP hw hK hc i pins s σ H E I hf st hg
    subst hP hw hK
    obtain ⟨hz, hTI, ⟨x0, y0, hTO⟩, h1, h2⟩ := st
    obtain ⟨xs, ys, x, y, hqx, hqy, hx, hy⟩ := hg
    obtain ⟨its, rv, p, _⟩ := I.tuple hqx
    obtain ⟨its2, rv2, p2, _⟩ := I.list hqy
    obtain ⟨v1, hv1, ru1⟩ := rv.get hx
    obtain ⟨v2, hv2, ru2⟩ := rv2.get hy
    have hzl : z < s.heap.objs.size := Heap.lt_size hz
    have hh : X.A.in1.handled = none := I.ok.hd hc
    have b1 : i < its.toArray.size := by simpa using (List.getElem?_eq_some_iff.mp hv1).1
    have b2 : i < its2.toArray.size := by simpa using (List.getElem?_eq_some_iff.mp hv2).1
    refine wpAny_pyNext_zipD2_item S (Draws.tuple hh i1 a n1 its.toArray) (Draws.list hh i2 b n2 its2.toArray) hz hTI hTO ⟨h1, p⟩ ⟨h2, p2.isList⟩ b1 b2 fun y1 y2 h' tk q1 q2 z' TO' h1' h2' hT hsz hk => ?_
    have e1 : y1 = v1 := by
      have : its[i]? = some y1 := by simpa using q1
      rw [hv1] at this; exact (Option.some.inj this).symm
    have e2 : y2 = v2 := by
      have : its2[i]? = some y2 := by simpa using q2
      rw [hv2] at this; exact (Option.some.inj this).symm
    subst e1 e2
    refine ⟨_, rfl, wpAny_letOwnedTupleGo_zip (s := { s with heap := h', toks := tk }) z' fun h'' z'' sb => ?_⟩
    replace sb : Heap.SameBut z h' h'' := sb
    have hT2 : h''.get? s.heap.objs.size = some { cls := .type "tuple", data := .seq #[y1, y2] } := (sb.2 _ (Nat.ne_of_gt hzl)).trans hT
    have new : ObjOk X.prog X.w (upd H s.heap.objs.size (.tup [x, y])) h'' s.heap.objs.size (.tup [x, y]) :=
      ⟨by show 2 ≤ sizeLine; decide, [y1, y2], .cons ru1 (.cons ru2 .nil), ⟨_, hT2, rfl, _, rfl⟩⟩
    have I1 : Inv X pins σ (upd H s.heap.objs.size (.tup [x, y])) { s with heap := h'', toks := tk } :=
      I.turnedNew (ch := [z, TI, TO, i1, i2]) (fun d o hb q => (sb.2 d (fun q' => hb (by simp [q']))).trans (hk d o (fun q' => hb (by simp [q'])) (fun q' => hb (by simp [q'])) (fun q' => hb (by simp [q'])) (fun q' => hb (by simp [q'])) q)) hf (Nat.le_refl _) new
    refine ⟨.ref s.heap.objs.size, _, I1, rfl, ⟨_, x, y, rfl, I.hok.fresh (Nat.le_refl _), rfl, fun l hl => by rw [I.tuple_inj hl hqx]; exact hx, fun l hl => by rw [I.list_inj hl hqy]; exact hy⟩,
      ⟨z'', ?_, ⟨y1, y2, ?_⟩, ?_, ?_⟩, fun d hdm => ?_⟩
    · exact (sb.2 _ S.TIz).trans (hk _ _ S.TIz S.TITO S.TIi1 S.TIi2 hTI)
    · exact (sb.2 _ S.TOz).trans TO'
    · exact h1'.1.at fun o q => (sb.2 _ S.zi1.symm).trans q
    · exact h2'.1.at fun o q => (sb.2 _ S.zi2.symm).trans q
    · have hlt : d < s.heap.objs.size := by
        have e' : d = z ∨ d = TI ∨ d = TO ∨ d = i1 ∨ d = i2 := by simpa using hdm
        rcases e' with q | q | q | q | q
        · rw [q]; exact hzl
        · rw [q]; exact Heap.lt_size hTI
        · rw [q]; exact Heap.lt_size hTO
        · rw [q]; obtain ⟨_, e1, _⟩ := h1; exact Heap.lt_size e1
        · rw [q]; obtain ⟨_, e2, _⟩ := h2; exact Heap.lt_size e2
      rw [upd_ne (Nat.ne_of_lt hlt)]
      exact (hf d hdm).1
  done := by
    intro X hP hw hK hc i pins s σ H E I hf st hg
    subst hP hw hK
    obtain ⟨hz, hTI, ⟨x0, y0, hTO⟩, h1, h2⟩ := st
    obtain ⟨xs, ys, hqx, hqy, l1, l2, hend⟩ := hg
    obtain ⟨its, rv, p, _⟩ := I.tuple hqx
    obtain ⟨its2, rv2, p2, _⟩ := I.list hqy
    have m1 : its.toArray.size = xs.length := by simpa using rv.length.symm
    have m2 : its2.toArray.size = ys.length := by simpa using rv2.length.symm
    have hh : X.A.in1.handled = none := I.ok.hd hc
    exact wpAny_pyNext_zipD2_end S (Draws.tuple hh i1 a n1 its.toArray) (Draws.list hh i2 b n2 its2.toArray) hz hTI hTO ⟨h1, p⟩ ⟨h2, p2.isList⟩ (by omega) (by omega) (by omega)
      fun h' tk hk => ⟨rfl, I.turnedL (t' := tk) (ch := [z, TI, TO, i1, i2]) (fun d o hb q => hk d o (fun q' => hb (by simp [q'])) (fun q' => hb (by simp [q'])) (fun q' => hb (by simp [q'])) (fun q' => hb (by simp [q'])) q) hf⟩
  self := fun A i s Q E st h => wpAny_pyIter_zip st.1 h
def iZipN (K : PySem.W.Frag) (ta : TA) : TI := fun σ H R => ta σ H fun vs H1 => ∃ a b xs ys, vs = [.ref a, .ref b] ∧ SqT K H1 a xs ∧ SqL K H1 b ys ∧ R (ItzN K a b) H1
theorem pi_zipN {X : Cx} {e e2 : Expr} {ta : TA} {p pos tpos : Pos} {elts : List Expr} {kk : Nat} (hg : Gl X "zip") (hm : X.mg "zip" = none) (ha : PA X [e, e2] ta)
    (hs : starEach [e, e2] X.env = (false, eval e X.env) :: starEach [e2] X.env := by rfl) (hpl : (backTo pos (starEach [e2] X.env)).any (·.1) = false := by rfl) :
    PI X (.Tuple elts kk tpos) (.Call (.Name "zip" p) [e, e2] [] pos) (iZipN X.K ta) := by
  refine ⟨fun pins s σ H R I h => ?_⟩
  refine Call_ (ld_blt I hg hm PyProof.Rows.boot_zip (PyProof.Rows.callWith_type1 (thn (ha.run pos pins s σ H _ I h) fun us s1 ⟨vs, H1, I1, r1, q1⟩ => ?_) hs hpl))
  obtain ⟨a, b, xs, ys, ex, hqx, hqy, q⟩ := q1
  subst ex
  cases r1 with
  | cons r rr =>
    cases rr with
    | cons r' rr =>
      cases rr
      cases r
      cases r'
      obtain ⟨its, rv, p1, _⟩ := I1.tuple hqx
      obtain ⟨its2, rv2, p2, _⟩ := I1.list hqy
      obtain ⟨o2, ho2, _⟩ := id p1
      have la : a < s1.heap.objs.size := Heap.lt_size ho2
      have lb : b < s1.heap.objs.size := p2.lt
      refine zip_begins2 (begins_tuple a its.toArray) (begins_list b its2.toArray) p1 p2.isList fun h' hz hTI hTO h1 h2 hsz hk => wpAny_pyIter_zip hz ?_
      have I2 : Inv X pins σ H1 { s1 with heap := h' } := I1.kept (t' := s1.toks) hk
      have one : ∀ (d N : Addr), d < N → ∀ x ∈ [d], x < N := fun d N hd x hx => by rw [List.mem_singleton.mp hx]; exact hd
      refine ⟨s1.heap.objs.size + 4, [s1.heap.objs.size + 4, s1.heap.objs.size + 2, s1.heap.objs.size + 3, s1.heap.objs.size, s1.heap.objs.size + 1], _, _, H1, rfl, I2,
        turn_zipN (zip_sep2 (fp1 := [a]) (fp2 := [b]) (one _ _ la) (one _ _ lb)) (Nat.ne_of_lt la) (Nat.ne_of_lt (Nat.lt_succ_of_lt lb)), ⟨hz, hTI, ⟨_, _, hTO⟩, ⟨_, h1, rfl, rfl⟩, ⟨_, h2, rfl, rfl⟩⟩, fun d hdm => ?_, q⟩
      have e' : d = s1.heap.objs.size + 4 ∨ d = s1.heap.objs.size + 2 ∨ d = s1.heap.objs.size + 3 ∨ d = s1.heap.objs.size ∨ d = s1.heap.objs.size + 1 := by simpa using hdm
      have hle : s1.heap.objs.size ≤ d := by
        rcases e' with z | z | z | z | z
        · rw [z]; exact Nat.le_add_right _ _
        · rw [z]; exact Nat.le_add_right _ _
        · rw [z]; exact Nat.le_add_right _ _
        · rw [z]; exact Nat.le_refl _
        · rw [z]; exact Nat.le_add_right _ _
      exact I1.fpOk hle (I1.hok.fresh hle)
end Lm

namespace Lm
open PySem PySem.Spec PyProof.Rows L2
/-! ### a star among targets: *a, b = xs; a, *b = xs -/
theorem walks_shift {prog : Program} {w : World} {A : Around} {I : Addr} {fp wr : List Addr} {G : Array GenState → Array GenState → Prop} {n : Nat} {Pi : Nat → Value → Prop} {St : Nat → Shared → Prop} (W : WalksS prog w A I fp wr G n Pi St) (k : Nat) (hk : k ≤ n) :
    WalksS prog w A I fp wr G (n - k) (fun i => Pi (k + i)) (fun i => St (k + i)) := by
  have e : k + (n - k) = n := by omega
  exact ⟨W.sub, W.grefl, W.gtrans, fun i => W.frame (k + i), fun i s Q E hi st hQ => W.item (k + i) s Q E (by omega) st hQ, fun s Q E st hQ => W.done s Q E (e ▸ st) hQ, fun i => W.self (k + i)⟩
section
variable {prog : Program} {w : World} {A : Around} {E : Value → Shared → Prop} {s : Shared}
theorem items_of_drop {items : Array Value} {i : Nat} {acc : Array Value} (hi : i ≤ items.size) (h : ItemsOf (fun k v => items[i + k]? = some v) acc (items.size - i)) : acc.toList = items.toList.drop i := by
  obtain ⟨hs, ha⟩ := h
  refine List.ext_getElem? fun k => ?_
  rw [List.getElem?_drop]
  rcases Nat.lt_or_ge k acc.size with q | q
  · have h1 : acc[k]? = some acc[k] := by simp [q]
    have h2 := ha k _ h1
    rw [Array.getElem?_toList, Array.getElem?_toList, h1, h2]
  · rw [List.getElem?_eq_none (by simpa using q), List.getElem?_eq_none (by rw [Array.length_toList]; omega)]
theorem unpackItems_star {t : Addr} {items : Array Value} {n i : Nat} {Q : List Value → Shared → Prop} (hh : A.handled = none) (ht : s.heap.IsList t items) (hz : items.size ≤ sizeLine) (hi : i < n) (hn : n ≤ items.size + 1)
    (hQ : ∀ (h1 : Heap) (tk : Nat), (∀ b o, s.heap.get? b = some o → h1.get? b = some o) →
      Q (items.toList.take i ++ [.ref h1.objs.size] ++ (items.toList.drop i).drop (items.size - (n - 1))) { s with heap := h1.push { cls := .type "list", data := .seq ((items.toList.drop i).take (items.size - (n - 1))).toArray }, toks := tk }) : wpAny (model prog w) A (unpackItems (.ref t) n (some i)) Q E s := by
  have hlt : t ≠ s.heap.objs.size := by obtain ⟨o, ho, _⟩ := ht; exact Nat.ne_of_lt (Heap.lt_size ho)
  have hta : t < s.heap.objs.size := by obtain ⟨o, ho, _⟩ := ht; exact Heap.lt_size ho
  unfold unpackItems
  refine wpAny_bind ?_
  unfold notIterableAtAll
  refine wpAny_bind (wpAny_specialOf ht.typeIs PySem.F.slot_list_iter.lookup ?_)
  refine wpAny_pure ?_
  simp only [Bool.false_eq_true, if_false]
  refine wpAny_bind (wpAny_holding (wpAny_pyIter_list ht ?_))
  refine wpAny_bind (wpAny_holding (draw_list hlt i 0 _ _ ⟨_, Heap.get?_push_size _ rfl, rfl, rfl⟩ (isList_push ht) (by omega) fun h₁ hit₁ hs₁ => ?_))
  have hfst : List.take i (List.drop 0 items.toList) = items.toList.take i := by rw [List.drop_zero]
  rw [hfst]
  rw [if_neg (by rw [List.length_take, Array.length_toList]; omega)]
  have ht₁ : h₁.IsList t items := isList_ext (isList_push ht) hs₁.extBut hlt
  have hit : h₁.IsListIter s.heap.objs.size t (i + 0) := by
    have e : 0 + i = i + 0 := by omega
    rw [← e]; exact hit₁
  have hsz : s.heap.objs.size < h₁.objs.size := by obtain ⟨o, ho, _⟩ := hit; exact Heap.lt_size ho
  refine wpAny_bind (wpAny_holding (wpAny_collect_iter (T := "list_iterator") (.inr (.inr (.inl rfl))) (walks_shift (Walks.list (prog := prog) (w := w) (A := A.in1) (by simpa using hh) s.heap.objs.size t hlt items).toS i (by omega)) (fun k s2 h => ?_) ⟨hit, ht₁⟩ (fun b hb => ?_) (by simp) (fun s2 acc hm hacc => ?_) (by omega)))
  · obtain ⟨⟨o, ho, hc, _⟩, _⟩ := h
    exact ⟨o, ho, hc⟩
  · simp only [List.mem_cons, List.not_mem_nil, or_false] at hb
    rcases hb with rfl | rfl
    · exact hsz
    · exact Nat.lt_trans hta hsz
  · have hrest := items_of_drop (by omega) hacc
    rw [hrest]
    rw [if_neg (by rw [List.length_drop, Array.length_toList]; omega)]
    have hmid : (List.drop i items.toList).length - (n - 1 - i) = items.size - (n - 1) := by rw [List.length_drop, Array.length_toList]; omega
    rw [hmid]
    unfold newList
    refine wpAny_bind (wpAny_newObj_type ?_ (by show _ ≤ sizeLine; simp; omega))
    refine wpAny_pure ?_
    have old : ∀ b o, s.heap.get? b = some o → s2.heap.get? b = some o := fun b o e => by
      have hb : b ≠ s.heap.objs.size := Nat.ne_of_lt (Heap.lt_size e)
      exact hm.heap b o (by simpa using hb) (hs₁.extBut b o hb (Heap.get?_push_of_some _ e))
    have e2 : ({ s2 with heap := s2.heap.push { cls := .type "list", data := .seq ((items.toList.drop i).take (items.size - (n - 1))).toArray } } : Shared) = { s with heap := s2.heap.push { cls := .type "list", data := .seq ((items.toList.drop i).take (items.size - (n - 1))).toArray }, toks := s2.toks } := by
      have g1 := hm.gens
      have g2 := hm.drawn
      have g3 := hm.os
      cases s2
      cases s
      simp at g1 g2 g3
      simp [g1, g2, g3]
    rw [e2]
    exact hQ s2.heap s2.toks old
end
/-- targets of which the one at i has a star -/
def gStar (K : PySem.W.Frag) (n i : Nat) (t : TGs) : TG := fun v σ H Q => ∃ a xs, v = .ref a ∧ SqL K H a xs ∧ n ≤ xs.length + 1 ∧ ∀ L, H L = none → t (xs.take i ++ [.ref L] ++ (xs.drop i).drop (xs.length - (n - 1))) σ (upd H L (.lst ((xs.drop i).take (xs.length - (n - 1))))) Q
theorem pgs_star {X : Cx} {e : Expr} {p : Pos} {es : List Expr} {t : TG} {u : TGs} (h1 : PG X e t) (h2 : PGs X es u)
    (hs : (assignEach (.Starred e p :: es) X.env).map (·.2) = assign e X.env :: (assignEach es X.env).map (·.2) := by rfl) : PGs X (.Starred e p :: es) (gCons t u) := by
  refine ⟨fun pins s σ H vs us Q I r h => ?_⟩
  obtain ⟨v, vr, e1, h⟩ := h
  subst e1
  cases r with
  | cons r rr =>
    rw [hs]
    refine assignInOrder_cons (thn (h1.run pins s σ H _ _ _ I r h) fun _ s1 ⟨σ1, H1, I1, q1⟩ => ?_)
    exact h2.run pins s1 σ1 H1 _ _ Q I1 rr q1
theorem pg_star {X : Cx} {es : List Expr} {k : Nat} {pos : Pos} {t : TGs} {n i : Nat} (hc : X.calm = true) (h : PGs X es t) (hi : i < n)
    (hn : (assignEach es X.env).length = n := by rfl) (hst : (assignEach es X.env).findIdx? (·.1) = some i := by rfl) : PG X (.Tuple es k pos) (gStar X.K n i t) := by
  refine ⟨fun pins s σ H v u Q I r hw => ?_⟩
  obtain ⟨a, xs, e1, hq, hl, hw⟩ := hw
  subst e1
  cases r
  obtain ⟨its, rv, ⟨o, m, e, hcl, _, d⟩, hz⟩ := I.list hq
  have hlen : its.length = xs.length := rv.length.symm
  rw [PyProof.Rows.assign_Tuple]
  refine wpAny_bind (wpAny_standAt ?_)
  unfold unpack
  have hln : (assignEach es X.env).length = n := hn
  rw [hln, hst]
  refine wpAny_bind (wpAny_holding (unpackItems_star (items := its.toArray) (I.ok.hd hc) ⟨o, e, hcl, m, d⟩ (by rw [List.size_toArray, hlen]; exact hz) hi (by simp; omega) fun h1 tk old => ?_))
  have hsz : its.toArray.size = xs.length := by simp [hlen]
  rw [hsz]
  have I0 : Inv X pins σ H { s with heap := h1, toks := tk } := I.kept (t' := tk) old
  have I1 : Inv X pins σ (upd H h1.objs.size (.lst ((xs.drop i).take (xs.length - (n - 1))))) { s with heap := h1.push { cls := .type "list", data := .seq ((its.toArray.toList.drop i).take (xs.length - (n - 1))).toArray }, toks := tk } := by
    refine I0.laid (t' := tk) (fun b o e => Heap.get?_push_of_some _ e) (Nat.le_refl _) ?_
    refine ⟨?_, _, 0, (rv.drop i).take (xs.length - (n - 1)), Heap.get?_push_size _ rfl⟩
    have : ((xs.drop i).take (xs.length - (n - 1))).length ≤ its.length := by rw [List.length_take, List.length_drop]; omega
    exact Nat.le_trans this (by rw [hlen]; exact hz)
  refine h.run pins _ σ _ _ _ Q I1 ?_ (hw h1.objs.size (I0.hok.fresh (Nat.le_refl _)))
  have hr : RelV (.ref h1.objs.size) (.ref h1.objs.size) := rfl
  exact Vals.append (Vals.append (rv.take i) (.cons hr .nil)) ((rv.drop i).drop _)
end Lm

namespace Lm
open PySem PySem.Spec PyProof.Rows L2
/-! ### for i, x in enumerate(xs, start=k) -/
def IteS (K : PySem.W.Frag) (a : Addr) (k0 : Int) : It :=
  ⟨fun i H => ∃ (xs : List V) (x : V), SqL K H a xs ∧ xs[i]? = some x, fun i H v H' => ∃ T x, v = .ref T ∧ H T = none ∧ H' = upd H T (.tup [.int (k0 + (i : Nat)), x]) ∧ ∀ xs, SqL K H a xs → xs[i]? = some x, fun i H => ∃ xs : List V, SqL K H a xs ∧ i = xs.length⟩
theorem turn_enumS {P : Program} {w : World} {K : PySem.W.Frag} {elts : List Expr} {kk : Nat} {tpos : Pos} (k0 : Int) (a e it : Addr) (hai : a ≠ it) (hae : a ≠ e) (hei : e ≠ it) :
    Turn P w K (.Tuple elts kk tpos) (IteS K a k0) [e, it] e (fun i h => (∃ old, IsEnum h e it (k0 + (i : Nat)) old) ∧ h.IsListIter it a i) where
  mem := by simp
  obj := fun i h st d hd => by
    obtain ⟨⟨old, he⟩, ⟨o, ho, hc, hdt⟩⟩ := st
    rcases (by simpa using hd : d = e ∨ d = it) with q | q
    · rw [q]; exact ⟨_, he, fun v z => nomatch z⟩
    · rw [q]; exact ⟨o, ho, fun v z => by rw [hdt] at z; cases z⟩
  keep := fun i h h' st k => by
    obtain ⟨⟨old, he⟩, hi⟩ := st
    exact ⟨⟨old, k e (by simp) _ he⟩, hi.at fun o q => k it (by simp) o q⟩
  item := by
    intro X hP hw hK hc i pins s σ H E I hf st hg
    subst hP hw hK
    obtain ⟨⟨old, he⟩, hit⟩ := st
    obtain ⟨xs, x, hq, hx⟩ := hg
    obtain ⟨its, rv, p, _⟩ := I.list hq
    obtain ⟨u, hu, ru⟩ := rv.get hx
    have hes : e < s.heap.objs.size := Heap.lt_size he
    have hts : it < s.heap.objs.size := by obtain ⟨_, q, _⟩ := id hit; exact Heap.lt_size q
    have hh : X.A.in1.handled = none := I.ok.hd hc
    have hlt : i < its.toArray.size := by simpa using (List.getElem?_eq_some_iff.mp hu).1
    refine wpAny_pyNext_enum_itemC (Draws.list hh it a hai its.toArray) he ⟨hit, p.isList⟩ hlt hei (fun z => (List.mem_cons.mp z).elim hei fun z => hae (List.mem_singleton.mp z).symm) fun y h' tk hy ho hst' hT hsz hk => ?_
    have ey : y = u := by
      have hy' : its[i]? = some y := by simpa using hy
      rw [hu] at hy'
      exact (Option.some.inj hy').symm
    subst ey
    refine ⟨_, rfl, wpAny_letOwnedTupleGo_enum (s := { s with heap := h', toks := tk + 1 }) ho fun h'' he' sb => ?_⟩
    have hT2 : h''.get? s.heap.objs.size = some { cls := .type "tuple", data := .seq #[.int (k0 + (i : Nat)) tk, y] } := (sb.2 _ (Nat.ne_of_gt hes)).trans hT
    have fresh : ObjOk X.prog X.w (upd H s.heap.objs.size (.tup [.int (k0 + (i : Nat)), x])) h'' s.heap.objs.size (.tup [.int (k0 + (i : Nat)), x]) :=
      ⟨by show 2 ≤ sizeLine; decide, [.int (k0 + (i : Nat)) tk, y], .cons ⟨_, rfl⟩ (.cons ru .nil), ⟨_, hT2, rfl, _, rfl⟩⟩
    have I1 : Inv X pins σ (upd H s.heap.objs.size (.tup [.int (k0 + (i : Nat)), x])) { s with heap := h'', toks := tk + 1 } :=
      I.turnedNew (ch := [e, it]) (fun d o hb q => (sb.2 d (fun z => hb (by simp [z]))).trans (hk d o (fun z => hb (by simp [z])) (fun z => hb (by simp [z])) q)) hf (Nat.le_refl _) fresh
    refine ⟨.ref s.heap.objs.size, _, I1, rfl, ⟨_, x, rfl, I.hok.fresh (Nat.le_refl _), rfl, fun l hl => by rw [I.list_inj hl hq]; exact hx⟩, ⟨⟨y, ?_⟩, hst'.1.at fun o q => (sb.2 it hei.symm).trans q⟩, fun d hd => ?_⟩
    · have e1 : k0 + ((i + 1 : Nat) : Int) = k0 + (i : Int) + 1 := by omega
      rw [e1]
      exact he'
    · have hlt' : d < s.heap.objs.size := by
        rcases (by simpa using hd : d = e ∨ d = it) with q | q
        · rw [q]; exact hes
        · rw [q]; exact hts
      rw [upd_ne (Nat.ne_of_lt hlt')]
      exact (hf d hd).1
  done := by
    intro X hP hw hK hc i pins s σ H E I hf st hg
    subst hP hw hK
    obtain ⟨⟨old, he⟩, hit⟩ := st
    obtain ⟨xs, hq, hx⟩ := hg
    obtain ⟨its, rv, p, _⟩ := I.list hq
    obtain ⟨f0, f1, f2, f3, f4, f5⟩ := hf it (by simp)
    have hh : X.A.in1.handled = none := I.ok.hd hc
    have hsz : i = its.toArray.size := by rw [hx, List.size_toArray]; exact rv.length
    subst hsz
    exact wpAny_pyNext_enum_endD (Draws.list hh it a hai its.toArray) he ⟨hit, p.isList⟩ fun h' eb => ⟨rfl, I.turned (t' := s.toks) (fun b o hb q => eb b o hb q) f0 f1 f3 f4 f5⟩
  self := fun A i s Q E st h => let ⟨⟨_, he⟩, _⟩ := st; wpAny_pyIter_enum he h
theorem callWith_typeKw {M : Model} {A : Around} {E : Value → Shared → Prop} {s : Shared} {pos : Pos} {T : String} {args : List (Bool × Sem Value)} {kws : List (Option Str × Sem Value)} {Q : Value → Shared → Prop} (hplain : (args.any (·.1) || kws.any (·.1.isNone)) = false)
    (h : wpAny M A (evalArgs (.type T) true args kws) (fun a s₁ => wpAny M A (call (.type T) a.pos a.kw) Q E s₁) E s) : wpAny M A (callWith pos (.type T) [] args kws) Q E s := by
  unfold callWith
  refine wpAny_bind (wpAny_holding (wpAny_mono h (fun a s₁ h₁ => wpAny_bind (wpAny_standAt ?_)) fun _ _ x => x))
  simp only [hplain]
  refine wpAny_bind (wpAny_pure ?_)
  exact wpAny_bind (wpAny_mono h₁ (fun r s₂ hr => wpAny_bind (wpAny_holding (wpAny_point (wpAny_pure hr)))) fun _ _ x => x)
def iEnumS (K : PySem.W.Frag) (ta tk : TA) : TI := fun σ H R => ta σ H fun vs H1 => tk σ H1 fun zs H2 => ∃ a xs k0, vs = [.ref a] ∧ zs = [.int k0] ∧ 0 ≤ k0 ∧ k0 < 1000 ∧ SqL K H2 a xs ∧ R (IteS K a k0) H2
theorem pi_enumS {X : Cx} {e : Expr} {ta tk : TA} {p pos tpos : Pos} {elts : List Expr} {kk : Nat} {kws : List Keyword} (hg : Gl X "enumerate") (hm : X.mg "enumerate" = none) (ha : PA X [e] ta) (hkw : PK X kws tk) (hs : starEach [e] X.env = (false, eval e X.env) :: starEach [] X.env := by rfl)
    (hall : (backToKw pos (keywordEach kws X.env)).all (·.1.isSome) = true := by rfl) (hks : (backToKw pos (keywordEach kws X.env)).filterMap (·.1) = [Str.ofString "start"] := by rfl)
    (hpl : ((backTo pos (starEach [e] X.env)).any (·.1) || (backToKw pos (keywordEach kws X.env)).any (·.1.isNone)) = false := by rfl) :
    PI X (.Tuple elts kk tpos) (.Call (.Name "enumerate" p) [e] kws pos) (iEnumS X.K ta tk) := by
  refine ⟨fun pins s σ H R I h => ?_⟩
  refine wpAny_Call_Name_kw (ld_blt I hg hm boot_enumerate (callWith_typeKw hpl (evalArgs_kw2 hall ?_ hs)))
  refine thn (ha.run pos pins s σ H _ I h) fun us s1 ⟨vs, H1, I1, r1, q1⟩ => ?_
  refine thn (hkw.run pos pins s1 σ H1 _ I1 q1) fun ws s2 ⟨zs, H2, I2, rz, q2⟩ => ?_
  obtain ⟨a, xs, k0, ex, ez, hk0, hk1, hq, q⟩ := q2
  subst ex ez
  rw [hks]
  cases r1 with
  | cons r rr =>
    cases rr
    cases r
    cases rz with
    | cons z zr =>
      cases zr
      obtain ⟨tk0, rfl⟩ := z
      obtain ⟨its, rv, p', _⟩ := I2.list hq
      have la : a < s2.heap.objs.size := p'.lt
      refine enum_begins_start (begins_list a its.toArray) p'.isList (by omega) (by omega) fun h' he hit hsz hk => wpAny_pyIter_enum he ?_
      have I3 : Inv X pins σ H2 { s2 with heap := h' } := I2.kept (t' := s2.toks) hk
      refine ⟨s2.heap.objs.size + 1, [s2.heap.objs.size + 1, s2.heap.objs.size], _, _, H2, rfl, I3, turn_enumS k0 a (s2.heap.objs.size + 1) s2.heap.objs.size (Nat.ne_of_lt la) (Nat.ne_of_lt (Nat.lt_succ_of_lt la)) (Nat.succ_ne_self _), ⟨⟨.none, ?_⟩, ⟨_, hit, rfl, rfl⟩⟩, fun b hb => ?_, q⟩
      · have e0 : k0 + ((0 : Nat) : Int) = k0 := by omega
        rw [e0]
        exact he
      · have hle : s2.heap.objs.size ≤ b := by
          rcases (by simpa using hb : b = s2.heap.objs.size + 1 ∨ b = s2.heap.objs.size) with z | z
          · rw [z]; exact Nat.le_add_right _ _
          · rw [z]; exact Nat.le_refl _
        exact I2.fpOk hle (I2.hok.fresh hle)
theorem walk_enumS {K : PySem.W.Frag} {a : Addr} {xs : List V} {k0 : Int} : Walk (IteS K a k0) xs.length (fun H => SqL K H a xs) (YPair (fun i => some (.int (k0 + (i : Nat)))) (fun i => xs[i]?)) := by
  refine ⟨fun i _ hi q => ⟨xs, xs[i], q, by simp [hi]⟩, fun _ q => ⟨xs, q, rfl⟩, fun i H v H' _ q y => ?_⟩
  obtain ⟨T, x, h1, h2, h3, h4⟩ := y
  exact ⟨T, .int (k0 + (i : Nat)), x, h1, h2, h3, rfl, h4 xs q⟩
end Lm

namespace Lm
open PySem PySem.Spec PyProof.Rows L2
/-- text * int, for a number from 2 on -/
def repS (x : Str) (n : Nat) : Str := ⟨(List.replicate n x.cps).foldl (· ++ ·) #[]⟩
def rMulS : R2 := fun x y H Q => ∃ (a : Str) (n : Nat), x = .str a ∧ y = .int (n : Int) ∧ 2 ≤ n ∧ n ≤ 1000 ∧ 0 < a.length ∧ a.length ≤ 1000 ∧ Q (.str (repS a n)) H
theorem foldl_app : ∀ (l : List (Array Nat)) (acc : Array Nat), (l.foldl (· ++ ·) acc).toList = acc.toList ++ (l.map Array.toList).flatten
  | [], acc => by simp
  | a :: r, acc => by rw [List.foldl_cons, foldl_app r]; simp
theorem tl_repS (x : Str) (n : Nat) : TL.tl (repS x n) = (List.replicate n (TL.tl x)).flatten := by
  show ((List.replicate n x.cps).foldl (· ++ ·) #[]).toList = _
  rw [foldl_app]
  simp [TL.tl]
theorem op_mulS {X : Cx} : OpR X (binaryOp .Mult) rMulS := by
  intro pins s σ H x y v u Q I rx ry h
  obtain ⟨a, n, rfl, rfl, h1, h2, h3, h4, q⟩ := h
  obtain ⟨t, rfl⟩ := rx
  obtain ⟨t', rfl⟩ := ry
  have hn1 : ¬ (n : Int) < 1 := by omega
  have hne : ((n : Int) == 1 || a.length == 0) = false := by
    have e1 : ((n : Int) == 1) = false := by simpa using (by omega : ¬ (n : Int) = 1)
    have e2 : (a.length == 0) = false := by simpa using (by omega : ¬ a.length = 0)
    rw [e1, e2]; rfl
  have hprod : a.length * n ≤ 1000000 := Nat.mul_le_mul h4 h2
  refine P.mul_str ?_ (fun _ _ => ?_) (fun _ _ => ?_) ?_
  · rw [decide_eq_false (by omega), decide_eq_false (by omega)]; rfl
  · have hle : (a.length : Int) * (n : Int) ≤ 2 ^ 63 - 1 := by
      have : (a.length : Int) * (n : Int) = ((a.length * n : Nat) : Int) := by simp
      rw [this]
      omega
    have hd : (a.length : Int) ≤ (2 ^ 63 - 1) / (n : Int) := (Int.le_ediv_iff_mul_le (by omega)).mpr hle
    omega
  · have : (n : Int).toNat = n := by simp
    rw [this]
    unfold Builtin.Str.tooLong
    simp
    have : (1000000 : Nat) ≤ sizeLine := by decide
    omega
  · rw [if_neg hn1, if_neg (by rw [hne]; simp)]
    have e : (n : Int).toNat = n := by simp
    rw [e]
    have hl : (repS a n).length ≤ sizeLine := by
      have e3 := TL.len_tl (repS a n)
      rw [tl_repS] at e3
      have e4 : (List.replicate n (TL.tl a)).flatten.length = n * (TL.tl a).length := by simp
      rw [e4, ← TL.len_tl] at e3
      have e5 : n * a.length = a.length * n := Nat.mul_comm _ _
      have : (1000000 : Nat) ≤ sizeLine := by decide
      omega
    exact ⟨hl, .str (repS a n), H, I.tok (t := s.toks + 1), ⟨_, rfl⟩, q⟩
end Lm

namespace Lm
open PySem L2
/-! ### readings of texts -/
def rStrO : List V → Hp → VK → Prop := fun xs H Q => (∃ i : Int, xs = [.int i] ∧ i.natAbs.log2 < 1920 ∧ Q (.str (toString i)) H) ∨ ∃ a : Str, xs = [.str a] ∧ Q (.str a) H
theorem call_strO {X : Cx} : CallR X (.type "str") rStrO := by
  intro pins s σ H xs us Q I r h
  rcases h with h | h
  · exact call_str_int pins s σ H xs us Q I r h
  · exact SkE.call_str_str pins s σ H xs us Q I r h
def rIntS : List V → Hp → VK → Prop := fun xs H Q => ∃ a n, xs = [V.str a] ∧ PySem.intText? a = some n ∧ a.length ≤ 640 ∧ Q (.int n) H
def rJoin (K : PySem.W.Frag) : V → List V → Hp → VK → Prop := fun x xs H Q => ∃ a p, ∃ ys : List Str, x = .str a ∧ xs = [.ref p] ∧ (SqL K H p (ys.map V.str) ∨ SqT K H p (ys.map V.str)) ∧ (ys.map (·.length)).sum + ys.length * a.length ≤ 16777216 ∧ Q (.str (Txt.join a ys)) H
def rSplit : V → List V → Hp → VK → Prop := fun x xs H Q => ∃ a b, x = .str a ∧ xs = [.str b] ∧ (b.length == 0) = false ∧ a.length + 2 ≤ sizeLine ∧ rNewStrs (Txt.split a b) H Q
def rInSign : R2 := fun x y H Q => ∃ (c : Nat) (z : Str), x = .str ⟨#[c]⟩ ∧ y = .str z ∧ Q (.bl (decide (c ∈ z.cps.toList))) H
def rNotInSign : R2 := fun x y H Q => ∃ (c : Nat) (z : Str), x = .str ⟨#[c]⟩ ∧ y = .str z ∧ Q (.bl (!decide (c ∈ z.cps.toList))) H
/-- nothing is raised by a def that might raise -/
def XNo : XK := fun _ _ _ => False
theorem passes_no {X : Cx} : Passes (L2.CX X.prog X.w) X XNo := fun _ _ _ _ _ _ _ h => by
  obtain ⟨_, _, _, _, _, _, _, _, _, _, _, _, h⟩ := h
  exact h.elim
end Lm

namespace Lm
open PySem L2
section
variable {X : Cx} {k : Nat} {f : Addr} {fd : FuncData} {ps ks : List Str} {sp : Sp} {x : Str} {p pos : Pos} {kws : List Keyword} {tk : TA} {g : List Value → List Value → List Value} {gV : List V → List V → List V} {E : XK}
/-- a def that may raise, called by keywords alone -/
theorem pe_dKX (D : DefOkX X.prog X.w X.K X.mg X.base k x f fd ps sp) (hb : KBn X.K fd ps 0 ks g gV) (hr : Room k X.A) (hx : Passes (L2.CX X.prog X.w) X E) (hkw : PK X kws tk) (hg : Gl X x := by rfl) (hdb : (x == ("__debug__" : Str)) = false := by decide)
    (hall : (backToKw pos (keywordEach kws X.env)).all (·.1.isSome) = true := by rfl) (hks : (backToKw pos (keywordEach kws X.env)).filterMap (·.1) = ks := by rfl)
    (hpl : ((backTo pos (starEach [] X.env)).any (·.1) || (backToKw pos (keywordEach kws X.env)).any (·.1.isNone)) = false := by rfl) :
    PE X (.Call (.Name x p) [] kws pos) (tCallK0 sp ks.length gV E tk) := by
  refine ⟨fun pins s σ H Q I h => ?_⟩
  refine wpAny_Call_Name_kw (ld_glob I hg D.mg ?_ hdb)
  refine PySem.W.callWith_KW0 (h₀ := X.base) I.ok.mod.kin D.kp hall ?_ hpl
  refine thn (hkw.run pos pins s σ H _ I h) fun ws s2 ⟨zs, H2, I2, rz, l2, q2⟩ => ⟨I2.kIn, ?_⟩
  rw [hks]
  have r2 := hb.rel (vs := []) (us := []) .nil rz
  have hl : (g [] ws).length = ps.length := by rw [← r2.length]; exact D.ok.len _ _ _ _ q2
  refine wpAny_call (codeAny_mono (D.ok.run X.A X.stack s2 H2 ⟨[], ks.zip ws⟩ (g [] ws) (gV [] zs) Q E hr I2.env0 (hb.to s2 [] ws I2.kIn rfl (rz.length.symm.trans l2)) r2 q2) fun r s' hq => ?_)
  cases r with
  | error e => exact hx pins σ H2 s2 e s' I2 hq
  | ok fl =>
    cases fl with
    | ret u => exact I2.after hq
    | next => exact False.elim hq
    | brk => exact False.elim hq
    | cont => exact False.elim hq
end
end Lm

namespace Lm
open PySem PySem.Spec PyProof.Rows L2
/-! ### xs[i:j:k] of a list -/
def pickV (xs : List V) (lo hi st : Option Int) : List V := (sliceRange (sliceBounds lo hi st xs.length).1 (sliceBounds lo hi st xs.length).2.1 (sliceBounds lo hi st xs.length).2.2).filterMap (xs[·]?)
theorem vals_pick {xs : List V} {its : List Value} (r : Vals xs its) : ∀ ns : List Nat, Vals (ns.filterMap (xs[·]?)) (ns.filterMap (its[·]?))
  | [] => .nil
  | n :: ns => by
    rw [List.filterMap_cons, List.filterMap_cons]
    cases e : xs[n]? with
    | none =>
      have : its[n]? = none := by
        rw [List.getElem?_eq_none_iff] at e ⊢
        rw [← r.length]
        exact e
      rw [this]
      exact vals_pick r ns
    | some x =>
      obtain ⟨u, hu, ru⟩ := r.get e
      rw [hu]
      exact .cons ru (vals_pick r ns)
theorem pickV_len (xs : List V) (lo hi st : Option Int) (its : List Value) (r : Vals xs its) : (slicePick its.toArray lo hi st) = ((sliceRange (sliceBounds lo hi st xs.length).1 (sliceBounds lo hi st xs.length).2.1 (sliceBounds lo hi st xs.length).2.2).filterMap (its[·]?)).toArray := by
  unfold slicePick
  rw [List.size_toArray, ← r.length]
  simp
def tSlSt (K : PySem.W.Frag) (te : TE) (tl th ts : TO) : TE := fun σ H Q => te σ H fun x H1 => tl σ H1 fun lo H2 => th σ H2 fun hi H3 => ts σ H3 fun st H4 => ∃ a xs, x = .ref a ∧ SqL K H4 a xs ∧ st ≠ some 0 ∧ (pickV xs lo hi st).length ≤ sizeLine ∧ ∀ p, H4 p = none → Q (.ref p) (upd H4 p (.lst (pickV xs lo hi st)))
theorem pe_slSt {X : Cx} {e st : Expr} {l u : Option Expr} {te : TE} {tl th ts : TO} {p3 pos : Pos} (he : PE X e te) (h1 : PO X l tl) (h2 : PO X u th) (h3 : PO X (some st) ts) : PE X (.Subscript e (.Slice l u (some st) p3) pos) (tSlSt X.K te tl th ts) := by
  refine ⟨fun pins s σ H Q I h => ?_⟩
  refine Subscript_ (thn (he.run pins s σ H _ I h) fun v s1 ⟨x, H1, I1, r1, q1⟩ => ?_)
  refine wpAny_Slice (thn (h1.run pins s1 σ H1 _ I1 q1) fun vl s2 ⟨lo, H2, I2, pl, q2⟩ => ?_)
  refine thn (h2.run pins s2 σ H2 _ I2 q2) fun vu s3 ⟨hi, H3, I3, pu, q3⟩ => ?_
  refine thn (h3.run pins s3 σ H3 _ I3 q3) fun vs s4 ⟨so, H4, I4, ps, a, xs, ex, hx, h0, hz, q⟩ => ?_
  subst ex
  cases r1
  have I5 : Inv X pins σ H4 { s4 with heap := s4.heap.push { cls := .type "slice", data := .fields #[vl, vu, vs] } } := I4.kept (t' := s4.toks) fun b ob q => Heap.get?_push_of_some _ q
  obtain ⟨its, r, ht, hz2⟩ := I5.list hx
  have hlen := r.length
  show wpAny (model X.prog X.w) X.A (subscriptTail e (.Slice l u (some st) p3) (.ref a) (.ref s4.heap.objs.size)) (EP X pins σ Q) X.xe { s4 with heap := s4.heap.push { cls := .type "slice", data := .fields #[vl, vu, vs] } }
  refine tail_any (ops := [.ref a, .ref s4.heap.objs.size]) ht.isList.typeIs (PySem.slot_list_getitem.lookup) ?_ (by with_unfolding_all rfl)
  refine wpAny_getItem_list_slice ht.isList (Heap.IsSliceOf.new _ vl vu vs) pl pu ps h0 ?_ (by rw [List.size_toArray]; omega)
  rw [pickV_len xs lo hi so its r]
  refine ⟨.ref _, _, I5.laid (t' := s4.toks) (o := .lst (pickV xs lo hi so)) (fun b ob q => Heap.get?_push_of_some _ q) (Nat.le_refl _) ?_, rfl, q _ (I5.hok.fresh (Nat.le_refl _))⟩
  exact ⟨hz, _, 0, vals_pick r _, Heap.get?_push_size _ rfl⟩
end Lm

namespace Lm
open PySem L2 ClX
/-! ### cls(e, ..), cls a name that holds the class at C -/
def tMakeV (i : Nat) (C : Addr) (sp : Sp) (E : XK) (t : TA) : TE := fun σ H Q => σ[i]? = some (some (.ref C)) ∧ tMake C sp [] E t σ H Q
theorem pe_mkV {X : Cx} {k i : Nat} {f C : Addr} {fd : FuncData} {ps : List Str} {sp : Sp} {x y : Str} {p pos : Pos} {e : Expr} {es : List Expr} {t : TA} (D : ClsOk X.prog X.w X.K X.mg X.base k y C f fd ps sp) (hr : Room (k + 1) X.A) (hN : X.N[i]? = some x) (hv : Vis X.env.scope x) (ha : PA X (e :: es) t)
    (hd : (x == ("__debug__" : Str)) = false := by decide) (hcd : (x == ("__classdict__" : Str)) = false := by decide)
    (he : starEach (e :: es) X.env = (false, eval e X.env) :: starEach es X.env := by rfl) (hpl : (backTo pos (starEach es X.env)).any (·.1) = false := by rfl) :
    PE X (.Call (.Name x p) (e :: es) [] pos) (tMakeV i C sp E0 t) := by
  refine ⟨fun pins s σ H Q I h => ?_⟩
  obtain ⟨hs, ht⟩ := h
  refine wpAny_Call_Name_kw (thn ((pe_var (pos := p) hN hv hd hcd).run pins s σ H (fun v H1 => v = .ref C ∧ H1 = H) I ⟨.ref C, hs, rfl, rfl⟩) fun u s1 ⟨v, H1, I1, r1, q1⟩ => ?_)
  obtain ⟨ev, eH⟩ := q1
  subst ev
  rw [eH] at I1
  obtain rfl : u = Value.ref C := r1
  refine PySem.W.callWith_K (h₀ := X.base) I.ok.mod.kin D.mkr.kp (thn (ha.run pos pins s1 σ H _ I1 ht) fun us s2 ⟨vs, H2, I2, r, q⟩ => ⟨I2.kIn, ?_⟩) he hpl
  exact run_make D.mkr D.ok hr D.bd .nil pass0 I2 r q
/-! ### C.m(k = v), m a classmethod -/
def tCMethK (C : Addr) (n : Nat) (sp : Sp) (gV : List V → List V → List V) (E : XK) (ta : TE) (tk : TA) : TE := fun σ H Q => ta σ H fun x H1 => x = .ref C ∧ tk σ H1 fun zs H2 => zs.length = n ∧ sp (gV [.ref C] zs) H2 Q E
theorem pe_cmethK {X : Cx} {CX : CXT} {k : Nat} {C p g : Addr} {mc : Value} {m : Str} {sp : Sp} {E : XK} {fd : FuncData} {ps ks : List Str} {G : List Value → List Value → List Value} {gV : List V → List V → List V} {o : Expr} {pos apos : Pos} {ta : TE} {tk : TA} {kws : List Keyword} {pl : Sem Bool}
    (F : FnOk X.prog X.w X.K X.mg X.base CX k g fd ps sp) (hb : KBn X.K fd ps 1 ks G gV) (r : CRead X.K C mc) (c : CMet X.K C mc m p g) (hr : Room k X.A) (hx : Passes CX X E) (he : PE X o ta) (hkw : PK X kws tk)
    (hall : (backToKw pos (keywordEach kws X.env)).all (·.1.isSome) = true := by rfl) (hks : (backToKw pos (keywordEach kws X.env)).filterMap (·.1) = ks := by rfl)
    (hpl : ((backTo pos (starEach [] X.env)).any (·.1) || (backToKw pos (keywordEach kws X.env)).any (·.1.isNone)) = false := by rfl)
    (ht : eval (.Call (.Attribute o m apos) [] kws pos) X.env = (do
      let ov ← eval o X.env
      standAt apos.atName
      let (f, first) ← holding [ov] (getMethod ov m pl)
      callWith pos f first (backTo pos (starEach [] X.env)) (backToKw pos (keywordEach kws X.env))) := by rfl) :
    PE X (.Call (.Attribute o m apos) [] kws pos) (tCMethK C ks.length sp gV E ta tk) := by
  refine ⟨fun pins s σ H Q I h => ?_⟩
  refine PySem.W.methodCall_KW (pl := pl) (thn (he.run pins s σ H _ I h) fun u s1 ⟨x, H1, I1, rx, ex, q⟩ => ?_) ht
  subst ex
  obtain rfl : u = Value.ref C := rx
  refine getmethcm_ok I1 r c fun s2 I2 => ?_
  refine PySem.W.callWith_of hpl (PySem.W.keeps_M (self := .ref C) c.fi) (PyProof.Rows.evalArgs_kw2_nil hall ?_)
  refine thn (hkw.run pos _ s2 σ H1 _ I2 q) fun ws s3 ⟨zs, H2, I3, rz, l2, q2⟩ => ⟨⟨pin_at I3, I3.kIn⟩, ?_⟩
  rw [hks]
  have r2 := hb.rel (vs := [V.ref C]) (us := [Value.ref C]) (.cons rfl .nil) rz
  have z : wpAny (model X.prog X.w) X.A (call (.ref s1.heap.objs.size) [] (ks.zip ws)) (EP X ((s1.heap.objs.size, PySem.W.methodObj (.ref g) (.ref C)) :: pins) σ Q) X.xe s3 := by
   refine wpAny_call (PySem.W.method_call (pin_at I3) (codeAny_mono (F.run X.A X.stack s3 H2 ⟨[.ref C], ks.zip ws⟩ (G [.ref C] ws) (gV [.ref C] zs) Q E hr I3.env0 (hb.to s3 [.ref C] ws I3.kIn rfl (rz.length.symm.trans l2)) r2 q2) fun r s' hq => ?_))
   cases r with
   | error e => exact hx _ σ H2 s3 e s' I3 hq
   | ok fl =>
     cases fl with
     | ret u => exact I3.after hq
     | next => exact False.elim hq
     | brk => exact False.elim hq
     | cont => exact False.elim hq
  exact thn z fun _ _ y => unpinE y
end Lm

namespace Lm
open PySem L2 Evl
/-! ### an own error with two fields -/
structure ErrF2 (K : PySem.W.Frag) (mg : Str → Option Value) (x : Str) (C fI : Addr) (f1 f2 : Str) : Prop where
  g : mg x = some (.ref C)
  T : OexC K C
  X : XfC K C
  ini : PySem.W.findIn K (.ref C) "__init__" = some (some (.ref fI))
  ty : PySem.W.typeIn K (.ref fI) = some (.type "function")
  n1 : PySem.W.findIn K (.ref C) f1 = some none
  n2 : PySem.W.findIn K (.ref C) f2 = some none
  ic : PySem.W.isClsIn K C = true
  self : PySem.W.subIn K (.ref C) (.ref C) = some true
theorem ErrF2.exm {K : PySem.W.Frag} {mg : Str → Option Value} {x : Str} {C fI : Addr} {f1 f2 : Str} (T : ErrF2 K mg x C fI f1 f2) : PySem.W.exmOne K (.ref C) (.ref C) = some true := exm_self T.T.exC T.ic T.T.tyC T.self
def spErrI2 (C : Addr) (f1 f2 : Str) : Sp := fun vs H Q _ => ∃ (a : Addr) (v1 v2 : V), vs = [.ref a, v1, v2] ∧ H a = some (exo a C none) ∧ ∀ dx, H dx = none → dx ≠ a → Q .non (upd (upd (upd H dx (exd dx [(f1, v1)])) a (exo a C (some dx))) dx (exd dx [(f2, v2), (f1, v1)]))
theorem go_mkO2 {C : Addr} {f1 f2 : Str} {ta tb : TE} {σ : L2.St} {H : Hp} {Q : XK} {v1 v2 : V} (h1 : Ev ta σ H v1) (h2 : Ev tb σ H v2) (k : ∀ H1 d, Ex H H1 → H1 d = none → Q (.ref C) (some d) (upd H1 d (.xd [(f2, v2), (f1, v1)]))) : tMkO C (spErrI2 C f1 f2) [] (tCons ta (tCons tb tNil)) σ H Q :=
  h1 H (Ex.refl H) _ fun H0 e0 => h2 H0 e0 _ fun H1 e1 => ⟨by show 2 ≤ 1000; decide, fun a na => ⟨a, v1, v2, rfl, upd_same, fun dx ndx hda => ⟨rfl, dx, [(f2, v2), (f1, v1)], by rw [upd_ne hda.symm]; exact upd_same, upd_same, by rw [upd_ne hda] at ndx; exact ndx, by
    have hn : H1 dx = none := by rw [upd_ne hda] at ndx; exact ndx
    have e : upd (del (upd (upd (upd (upd H1 a (exo a C none)) dx (exd dx [(f1, v1)])) a (exo a C (some dx))) dx (exd dx [(f2, v2), (f1, v1)])) a) dx (.xd [(f2, v2), (f1, v1)]) = upd H1 dx (.xd [(f2, v2), (f1, v1)]) := by
      funext b
      by_cases hb : b = dx
      · subst hb
        rw [upd_same, upd_same]
      · rw [upd_ne hb, upd_ne hb]
        by_cases hba : b = a
        · subst hba
          rw [del_same, na]
        · rw [del_ne hba, upd_ne hb, upd_ne hba, upd_ne hb, upd_ne hba]
    rw [e]
    exact k H1 dx (Ex.trans e0 e1) hn⟩⟩⟩
end Lm

namespace Lm
open PySem L2 ClX
/-- cls(e, ..) of a class whose __init__ may raise -/
theorem pe_mkVX {X : Cx} {k i : Nat} {f C : Addr} {fd : FuncData} {ps : List Str} {sp : Sp} {x y : Str} {p pos : Pos} {e : Expr} {es : List Expr} {t : TA} {E : XK} (D : ClsOkX X.prog X.w X.K X.mg X.base k y C f fd ps sp) (hr : Room (k + 1) X.A) (hN : X.N[i]? = some x) (hv : Vis X.env.scope x) (hx : Passes (L2.CX X.prog X.w) X E) (ha : PA X (e :: es) t)
    (hd : (x == ("__debug__" : Str)) = false := by decide) (hcd : (x == ("__classdict__" : Str)) = false := by decide)
    (he : starEach (e :: es) X.env = (false, eval e X.env) :: starEach es X.env := by rfl) (hpl : (backTo pos (starEach es X.env)).any (·.1) = false := by rfl) :
    PE X (.Call (.Name x p) (e :: es) [] pos) (tMakeV i C sp E t) := by
  refine ⟨fun pins s σ H Q I h => ?_⟩
  obtain ⟨hs, ht⟩ := h
  refine wpAny_Call_Name_kw (thn ((pe_var (pos := p) hN hv hd hcd).run pins s σ H (fun v H1 => v = .ref C ∧ H1 = H) I ⟨.ref C, hs, rfl, rfl⟩) fun u s1 ⟨v, H1, I1, r1, q1⟩ => ?_)
  obtain ⟨ev, eH⟩ := q1
  subst ev
  rw [eH] at I1
  obtain rfl : u = Value.ref C := r1
  refine PySem.W.callWith_K (h₀ := X.base) I.ok.mod.kin D.mkr.kp (thn (ha.run pos pins s1 σ H _ I1 ht) fun us s2 ⟨vs, H2, I2, r, q⟩ => ⟨I2.kIn, ?_⟩) he hpl
  exact run_make D.mkr D.ok hr D.bd .nil hx I2 r q
end Lm

namespace Lm
open PySem L2 TL
/-! ### texts, their lines and words -/
theorem tl_sp : tl (" " : Str) = [32] := by decide +kernel
theorem tl_nl : tl ("\n" : Str) = [10] := by decide +kernel
theorem spl1_hit (s : Nat) (acc r : List Nat) : spl [s] 0 acc (s :: r) = acc :: spl [s] 0 [] r := by rw [spl_hit (by simp [pre])]; simp
theorem spl1_miss {s c : Nat} (h : c ≠ s) (acc r : List Nat) : spl [s] 0 acc (c :: r) = spl [s] 0 (acc ++ [c]) r := spl_miss (by simp [pre, h])
theorem spl1_ne (s : Nat) : ∀ (l acc : List Nat), spl [s] 0 acc l ≠ []
  | [], acc => by rw [spl_nil]; simp
  | c :: r, acc => by
    by_cases h : c = s
    · subst h; rw [spl1_hit]; simp
    · rw [spl1_miss h]; exact spl1_ne s r _
theorem spl1_free (s : Nat) : ∀ (l acc : List Nat), s ∉ acc → ∀ p ∈ spl [s] 0 acc l, s ∉ p
  | [], acc, h, p, hp => by rw [spl_nil, List.mem_singleton] at hp; rw [hp]; exact h
  | c :: r, acc, h, p, hp => by
    by_cases q : c = s
    · subst q
      rw [spl1_hit] at hp
      rcases List.mem_cons.mp hp with e | hp
      · rw [e]; exact h
      · exact spl1_free c r [] (by simp) p hp
    · rw [spl1_miss q] at hp
      refine spl1_free s r (acc ++ [c]) (fun z => ?_) p hp
      rcases List.mem_append.mp z with z | z
      · exact h z
      · exact q (List.mem_singleton.mp z).symm
theorem joinL_cons {S p : List Nat} {r : List (List Nat)} (h : r ≠ []) : joinL S (p :: r) = p ++ (S ++ joinL S r) := by
  cases r with
  | nil => exact absurd rfl h
  | cons a b => rfl
theorem joinL_spl (s : Nat) : ∀ l acc : List Nat, joinL [s] (spl [s] 0 acc l) = acc ++ l
  | [], acc => by rw [spl_nil]; show acc = acc ++ []; simp
  | c :: r, acc => by
    by_cases h : c = s
    · subst h
      rw [spl1_hit, joinL_cons (spl1_ne _ _ _), joinL_spl c r []]
      simp
    · rw [spl1_miss h, joinL_spl s r]
      simp
theorem spl1_len (s : Nat) (l : List Nat) : ∀ p ∈ spl [s] 0 [] l, p.length ≤ l.length := by
  have key : ∀ (r : List (List Nat)), ∀ p ∈ r, p.length ≤ (joinL [s] r).length := by
    intro r
    induction r with
    | nil => intro p hp; cases hp
    | cons a b ih =>
      intro p hp
      by_cases hb : b = []
      · subst hb
        rw [List.mem_singleton.mp hp]
        exact Nat.le_refl _
      · rw [joinL_cons hb]
        simp only [List.length_append]
        rcases List.mem_cons.mp hp with e | hp
        · rw [e]; omega
        · have := ih p hp; omega
  intro p hp
  have := key _ p hp
  rw [joinL_spl] at this
  simpa using this
theorem spl1_count (s : Nat) : ∀ l acc : List Nat, (spl [s] 0 acc l).length ≤ l.length + 1
  | [], acc => by rw [spl_nil]; simp
  | c :: r, acc => by
    by_cases h : c = s
    · subst h; rw [spl1_hit]; have := spl1_count c r []; simp; omega
    · rw [spl1_miss h]; have := spl1_count s r (acc ++ [c]); simp; omega
def wordsOf (l : Str) : List Str := Txt.split l " "
def linesOf (x : Str) : List Str := Txt.split x "\n"
theorem words_tl' (l : Str) : (wordsOf l).map tl = spl [32] 0 [] (tl l) := by
  have := split_spl l " " (by rw [tl_sp]; simp) (kind_ok (by decide +kernel))
  rw [tl_sp] at this
  exact this
theorem lines_tl (l : Str) : (linesOf l).map tl = spl [10] 0 [] (tl l) := by
  have := split_spl l "\n" (by rw [tl_nl]; simp) (kind_ok (by decide +kernel))
  rw [tl_nl] at this
  exact this
theorem words_ne (l : Str) : wordsOf l ≠ [] := fun z => by have := words_tl' l; rw [z] at this; exact spl1_ne _ _ _ this.symm
theorem lines_ne (l : Str) : linesOf l ≠ [] := fun z => by have := lines_tl l; rw [z] at this; exact spl1_ne _ _ _ this.symm
theorem words_free (l : Str) : ∀ p ∈ wordsOf l, 32 ∉ tl p := fun p hp => spl1_free 32 (tl l) [] (by simp) _ (by rw [← words_tl']; exact List.mem_map_of_mem hp)
theorem lines_free (l : Str) : ∀ p ∈ linesOf l, 10 ∉ tl p := fun p hp => spl1_free 10 (tl l) [] (by simp) _ (by rw [← lines_tl]; exact List.mem_map_of_mem hp)
theorem words_len (l : Str) : ∀ p ∈ wordsOf l, p.length ≤ l.length := fun p hp => by
  rw [len_tl, len_tl]
  exact spl1_len 32 (tl l) _ (by rw [← words_tl']; exact List.mem_map_of_mem hp)
theorem lines_len (l : Str) : ∀ p ∈ linesOf l, p.length ≤ l.length := fun p hp => by
  rw [len_tl, len_tl]
  exact spl1_len 10 (tl l) _ (by rw [← lines_tl]; exact List.mem_map_of_mem hp)
theorem words_count (l : Str) : (wordsOf l).length ≤ l.length + 1 := by
  have := spl1_count 32 (tl l) []
  rw [← words_tl', List.length_map, ← len_tl] at this
  exact this
theorem lines_count (l : Str) : (linesOf l).length ≤ l.length + 1 := by
  have := spl1_count 10 (tl l) []
  rw [← lines_tl, List.length_map, ← len_tl] at this
  exact this
theorem join_words (l : Str) : Txt.join " " (wordsOf l) = l := by
  refine ext_tl ?_
  rw [join_eq, tl_join, words_tl', tl_sp, joinL_spl]
  rfl
theorem join_lines (l : Str) : Txt.join "\n" (linesOf l) = l := by
  refine ext_tl ?_
  rw [join_eq, tl_join, lines_tl, tl_nl, joinL_spl]
  rfl
theorem words_join {ps : List Str} (h : ps ≠ []) (hp : ∀ p ∈ ps, 32 ∉ tl p) : wordsOf (Txt.join " " ps) = ps := split_join tl_sp (by decide +kernel) h hp
theorem lines_join {ps : List Str} (h : ps ≠ []) (hp : ∀ p ∈ ps, 10 ∉ tl p) : linesOf (Txt.join "\n" ps) = ps := split_join tl_nl (by decide +kernel) h hp
/-! ### numbers -/
def dstr (n : Nat) : Str := Str.ofString (toString ((n : Nat) : Int))
theorem tl_dstr (n : Nat) : tl (dstr n) = numL n := tl_num n
def isFig (w : Str) : Bool := !decide (w = "") && (tl w).all fun c => decide (48 ≤ c ∧ c ≤ 57)
def valOf (w : Str) : Nat := NumText.digitsVal (tl w)
theorem isFig_digits {w : Str} (h : isFig w = true) : NumText.AllDigits (tl w) ∧ tl w ≠ [] := by
  unfold isFig at h
  rw [Bool.and_eq_true] at h
  refine ⟨fun c hc => of_decide_eq_true (List.all_eq_true.mp h.2 c hc), fun z => ?_⟩
  have : w = "" := ext_tl (by rw [z]; decide +kernel)
  rw [this] at h
  simp at h
theorem int_fig {w : Str} (h : isFig w = true) (hl : w.length ≤ 4300) : PySem.intText? w = some ((valOf w : Nat) : Int) := intText_digits (isFig_digits h).1 (isFig_digits h).2 hl
def canon (w : Str) : Bool := isFig w && decide (w = dstr (valOf w))
theorem isFig_dstr (n : Nat) : isFig (dstr n) = true := by
  unfold isFig
  rw [tl_dstr, Bool.and_eq_true]
  refine ⟨?_, List.all_eq_true.mpr fun c hc => decide_eq_true (numL_digits n c hc)⟩
  rw [Bool.not_eq_true', decide_eq_false_iff_not]
  intro z
  have := congrArg tl z
  rw [tl_dstr] at this
  exact numL_ne n (this.trans (by decide +kernel))
theorem valOf_dstr (n : Nat) : valOf (dstr n) = n := by unfold valOf; rw [tl_dstr]; exact numL_val n
theorem canon_dstr (n : Nat) : canon (dstr n) = true := by unfold canon; rw [isFig_dstr, valOf_dstr]; simp
theorem digits_lt : ∀ (l : List Nat) (a : Nat), NumText.AllDigits l → l.foldl (fun acc c => acc * 10 + (c - 48)) a < (a + 1) * 10 ^ l.length
  | [], a, _ => by simp
  | c :: r, a, h => by
    rw [List.foldl_cons, List.length_cons, Nat.pow_succ]
    have h1 := digits_lt r (a * 10 + (c - 48)) h.tail
    have h2 := h.head
    refine Nat.lt_of_lt_of_le h1 ?_
    have : a * 10 + (c - 48) + 1 ≤ (a + 1) * 10 := by omega
    calc (a * 10 + (c - 48) + 1) * 10 ^ r.length ≤ ((a + 1) * 10) * 10 ^ r.length := Nat.mul_le_mul_right _ this
      _ = (a + 1) * (10 ^ r.length * 10) := by rw [Nat.mul_assoc, Nat.mul_comm 10]
theorem valOf_lt {w : Str} (h : NumText.AllDigits (tl w)) : valOf w < 10 ^ w.length := by
  have := digits_lt (tl w) 0 h
  unfold valOf NumText.digitsVal
  rw [len_tl]
  simpa using this
/-! ### deeds and their lines -/
def kindsS : List Str := ["read", "jump", "anew", "give", "take"]
def leadS : List Str := ["read", "jump"]
def cntOf (k : Str) : Nat := if k ∈ leadS then 2 else 1
abbrev Deed := Str × List Nat
def lineOf (d : Deed) : Str := Txt.join " " (d.1 :: d.2.map dstr) ++ "\n"
/-- what the words of a line tell, if they tell a deed -/
def deedW : List Str → Option Deed
  | [] => none
  | k :: fs => if k ∈ kindsS ∧ fs.length = cntOf k ∧ fs.all canon = true ∧ (fs.map valOf).headD 3 < 3 then some (k, fs.map valOf) else none
def deedL (l : Str) : Option Deed := deedW (wordsOf l)
theorem kinds_free : ∀ k ∈ kindsS, 32 ∉ tl k ∧ 10 ∉ tl k := by decide +kernel
theorem dstr_free (n : Nat) : 32 ∉ tl (dstr n) ∧ 10 ∉ tl (dstr n) := by rw [tl_dstr]; exact ⟨numL_free (.inl (by decide)), numL_free (.inl (by decide))⟩
theorem tl_app (x y : Str) : tl (x ++ y) = tl x ++ tl y := tl_append x y
theorem app_nl_inj {x y : Str} (h : x ++ "\n" = y ++ "\n") : x = y := by
  have := congrArg tl h
  rw [tl_app, tl_app] at this
  exact ext_tl (List.append_cancel_right this)
/-- a line is written as it was read just if its numbers are -/
theorem line_iff {l k : Str} {fs : List Str} (hw : wordsOf l = k :: fs) (hk : k ∈ kindsS) : lineOf (k, fs.map valOf) = l ++ "\n" ↔ ∀ w ∈ fs, w = dstr (valOf w) := by
  have hj := join_words l
  rw [hw] at hj
  constructor
  · intro h
    have h1 : Txt.join " " (k :: (fs.map valOf).map dstr) = l := app_nl_inj h
    have h2 := words_join (ps := k :: (fs.map valOf).map dstr) (by simp) (fun p hp => by
      rcases List.mem_cons.mp hp with e | hp
      · rw [e]; exact (kinds_free k hk).1
      · obtain ⟨n, _, rfl⟩ := List.mem_map.mp hp
        exact (dstr_free n).1)
    rw [h1, hw] at h2
    have h3 := (List.cons.inj h2).2
    rw [List.map_map] at h3
    intro w hw'
    obtain ⟨i, hi⟩ := List.mem_iff_getElem?.mp hw'
    have h4 := congrArg (fun z => z[i]?) h3
    simp only [List.getElem?_map, hi] at h4
    exact Option.some.inj h4
  · intro h
    show Txt.join " " (k :: (fs.map valOf).map dstr) ++ "\n" = l ++ "\n"
    have : (fs.map valOf).map dstr = fs := by
      rw [List.map_map]
      refine (List.map_congr_left fun w hw' => ?_).trans (List.map_id fs)
      exact (h w hw').symm
    rw [this, hj]
theorem line_ne {l k : Str} {ns : List Nat} (h : 10 ∉ tl l) : lineOf (k, ns) ≠ l := fun z => by
  have := congrArg tl z
  unfold lineOf at this
  rw [tl_app, tl_nl] at this
  exact h (by rw [← this]; simp)
theorem stripLo_no (g : Nat → Bool) (x : Str) : PySem.stripLo g false x = 0 := rfl
theorem nl_has (c : Nat) : ("\n" : Str).cps.contains c = decide (c = 10) := by
  have e : ("\n" : Str).cps = #[10] := by decide +kernel
  rw [e]
  by_cases h : c = 10 <;> simp [h]
theorem cps_at {x : Str} {i : Nat} (h : i < (tl x).length) : x.cps.getD i 0 = (tl x)[i] := by
  rw [← PyProof.Rows.getD_list, List.getD_eq_getElem?_getD, List.getElem?_eq_getElem h]
  rfl
theorem rstrip_cut (l : List Nat) (m : List Nat) (h : 10 ∉ l) (hm : ∀ c ∈ m, c = 10) (x : Str) (hx : tl x = l ++ m) : tl (Txt.rstripChars x "\n") = l := by
  unfold Txt.rstripChars
  rw [PyProof.Rows.stripBy_eq, stripLo_no, tl_strSub]
  obtain ⟨h1, h2, h3, h4⟩ := PyProof.Rows.hi_facts ("\n" : Str).cps.contains x 0 (Nat.zero_le _)
  generalize PySem.stripHi ("\n" : Str).cps.contains true x 0 = hi at h1 h2 h3 h4
  rw [len_tl] at h2
  have hlen : (tl x).length = l.length + m.length := by rw [hx, List.length_append]
  have e : hi = l.length := by
    rcases Nat.lt_trichotomy hi l.length with q | q | q
    · -- the sign at hi is struck, so it is 10
      have hlt : hi < (tl x).length := by omega
      have := h3 hi (Nat.le_refl _) (by rw [len_tl]; exact hlt)
      rw [cps_at hlt, nl_has] at this
      have e10 := of_decide_eq_true this
      have : (tl x)[hi]'hlt = l[hi] := by
        simp only [hx]
        exact List.getElem_append_left q
      rw [this] at e10
      exact absurd (e10 ▸ List.getElem_mem q) h
    · exact q
    · rcases h4 with h4 | h4
      · omega
      · have hlt : hi - 1 < (tl x).length := by omega
        rw [cps_at hlt, nl_has] at h4
        have e10 := of_decide_eq_false h4
        refine absurd (hm _ ?_) e10
        have : (tl x)[hi - 1]'hlt = m[hi - 1 - l.length]'(by omega) := by
          simp only [hx]
          exact List.getElem_append_right (by omega)
        rw [this]
        exact List.getElem_mem _
  rw [e, hx]
  simp
theorem rstrip_nl {l : Str} (h : 10 ∉ tl l) : Txt.rstripChars (l ++ "\n") "\n" = l := ext_tl (rstrip_cut (tl l) [10] h (by simp) _ (by rw [tl_app, tl_nl]))
theorem rstrip_free {l : Str} (h : 10 ∉ tl l) : Txt.rstripChars l "\n" = l := ext_tl (rstrip_cut (tl l) [] h (by simp) _ (by simp))
/-- deeds that have lines -/
structure DeedOk (d : Deed) : Prop where
  k : d.1 ∈ kindsS
  n : d.2.length = cntOf d.1
  d : d.2.headD 3 < 3
theorem deedL_line {d : Deed} (h : DeedOk d) : deedL (Txt.join " " (d.1 :: d.2.map dstr)) = some d := by
  obtain ⟨k, ns⟩ := d
  unfold deedL
  rw [words_join (by simp) (fun p hp => by
    rcases List.mem_cons.mp hp with e | hp
    · rw [e]; exact (kinds_free k h.k).1
    · obtain ⟨n, _, rfl⟩ := List.mem_map.mp hp
      exact (dstr_free n).1)]
  have e : (ns.map dstr).map valOf = ns := by
    rw [List.map_map]
    exact (List.map_congr_left fun n _ => valOf_dstr n).trans (List.map_id ns)
  show (if _ then _ else _) = _
  rw [if_pos ⟨h.k, by rw [List.length_map]; exact h.n, List.all_eq_true.mpr fun w hw => by
    obtain ⟨n, _, rfl⟩ := List.mem_map.mp hw
    exact canon_dstr n, by rw [e]; exact h.d⟩, e]
end Lm

namespace Lm
open PySem L2 TL
/-! ### runs without a line feed -/
def SgB (M : Nat) (l : List Nat) : Prop := ∀ a b c : List Nat, l = a ++ (b ++ c) → 10 ∉ b → b.length ≤ M
theorem SgB.mono {M N : Nat} {l : List Nat} (h : SgB M l) (hn : M ≤ N) : SgB N l := fun a b c e q => Nat.le_trans (h a b c e q) hn
theorem sg_short {M : Nat} {l : List Nat} (h : l.length ≤ M) : SgB M l := fun a b c e q => by
  have := congrArg List.length e
  simp only [List.length_append] at this
  omega
theorem sg_app {M N : Nat} {p q : List Nat} (hp : SgB M p) (hq : SgB N q) : SgB (M + N) (p ++ q) := fun a b c e n => by
  rcases List.append_eq_append_iff.mp e with ⟨a', h1, h2⟩ | ⟨c', h1, h2⟩
  · have := hq a' b c h2 n; omega
  · rcases List.append_eq_append_iff.mp h2 with ⟨a'', h3, h4⟩ | ⟨c'', h3, h4⟩
    · have := hp a b a'' (by rw [h1, h3]) n; omega
    · have g1 := hp a c' [] (by rw [h1, List.append_nil]) (fun z => n (by rw [h3]; exact List.mem_append_left _ z))
      have g2 := hq [] c'' c (by rw [h4]; rfl) (fun z => n (by rw [h3]; exact List.mem_append_right _ z))
      rw [h3, List.length_append]
      omega
theorem sg_nl {M : Nat} {p q : List Nat} (hp : SgB M p) (hq : SgB M q) : SgB M (p ++ 10 :: q) := fun a b c e n => by
  rcases List.append_eq_append_iff.mp e with ⟨a', h1, h2⟩ | ⟨c', h1, h2⟩
  · cases a' with
    | nil =>
      cases b with
      | nil => exact Nat.zero_le _
      | cons b0 b =>
        have h2 : 10 :: q = b0 :: (b ++ c) := h2
        have := (List.cons.inj h2).1
        exact absurd (by rw [this]; simp) n
    | cons a0 a' => exact hq a' b c (List.cons.inj h2).2 n
  · rcases List.append_eq_append_iff.mp h2 with ⟨a'', h3, h4⟩ | ⟨c'', h3, h4⟩
    · exact hp a b a'' (by rw [h1, h3]) n
    · cases c'' with
      | nil => exact hp a b [] (by rw [h1, h3]; simp) n
      | cons c0 c'' =>
        have h4 : 10 :: q = c0 :: (c'' ++ c) := h4
        have := (List.cons.inj h4).1
        exact absurd (by rw [h3, this]; simp) n
theorem sg_left {M : Nat} {p q : List Nat} (h : SgB M (p ++ q)) : SgB M p := fun a b c e n => h a b (c ++ q) (by rw [e]; simp) n
theorem sg_right {M : Nat} {p q : List Nat} (h : SgB M (p ++ q)) : SgB M q := fun a b c e n => h (p ++ a) b c (by rw [e]; simp) n
theorem sg_take {M n : Nat} {l : List Nat} (h : SgB M l) : SgB M (l.take n) := sg_left (q := l.drop n) (by rw [List.take_append_drop]; exact h)
theorem sg_drop {M n : Nat} {l : List Nat} (h : SgB M l) : SgB M (l.drop n) := sg_right (p := l.take n) (by rw [List.take_append_drop]; exact h)
theorem sg_join {M : Nat} : ∀ {ps : List (List Nat)}, (∀ p ∈ ps, SgB M p) → SgB M (joinL [10] ps)
  | [], _ => sg_short (Nat.zero_le _)
  | p :: r, h => by
    by_cases hr : r = []
    · subst hr
      exact h p (by simp)
    · rw [joinL_cons hr]
      exact sg_nl (h p (by simp)) (sg_join fun q hq => h q (by simp [hq]))
theorem join_at : ∀ {ps : List (List Nat)} {p : List Nat}, p ∈ ps → ∃ a c, joinL [10] ps = a ++ (p ++ c)
  | q :: r, p, h => by
    by_cases hr : r = []
    · subst hr
      rw [List.mem_singleton.mp h]
      exact ⟨[], [], by show q = _; simp⟩
    · rw [joinL_cons hr]
      rcases List.mem_cons.mp h with rfl | h
      · exact ⟨[], _, rfl⟩
      · obtain ⟨a, c, e⟩ := join_at h
        exact ⟨q ++ ([10] ++ a), c, by rw [e]; simp⟩
theorem sg_lines {M : Nat} {x : Str} (h : SgB M (tl x)) : ∀ l ∈ linesOf x, l.length ≤ M := fun l hl => by
  have h1 : tl l ∈ spl [10] 0 [] (tl x) := by rw [← lines_tl]; exact List.mem_map_of_mem hl
  obtain ⟨a, c, e⟩ := join_at h1
  rw [joinL_spl, List.nil_append] at e
  rw [len_tl]
  exact h a _ c e (lines_free x l hl)
/-! ### the weight of a row of texts -/
def wgt (ps : List Str) : Nat := (ps.map (·.length)).sum + ps.length
theorem wgt_app (p q : List Str) : wgt (p ++ q) = wgt p + wgt q := by
  unfold wgt
  rw [List.map_append, List.sum_append, List.length_append]
  omega
theorem wgt_one (x : Str) : wgt [x] = x.length + 1 := by simp [wgt]
theorem wgt_cut (ws : List Str) (n : Nat) : wgt (ws.take n) + wgt (ws.drop n) = wgt ws := by rw [← wgt_app, List.take_append_drop]
theorem wgt_drop (ws : List Str) (n : Nat) : wgt (ws.drop (n + 1)) ≤ wgt (ws.drop n) := by
  have := wgt_cut (ws.drop n) 1
  rw [List.drop_drop] at this
  omega
theorem joinL_len1 (s : Nat) : ∀ {ps : List (List Nat)}, ps ≠ [] → (joinL [s] ps).length + 1 = (ps.map List.length).sum + ps.length
  | [p], _ => by simp [joinL]
  | p :: q :: r, _ => by
    rw [joinL_cons (by simp)]
    have := joinL_len1 s (ps := q :: r) (by simp)
    rw [List.map_cons, List.sum_cons, List.length_cons (a := p)]
    simp only [List.length_append, List.length_singleton]
    omega
theorem wgt_words (l : Str) : wgt (wordsOf l) = l.length + 1 := by
  have h := joinL_len1 32 (spl1_ne 32 (tl l) [])
  rw [joinL_spl, ← words_tl', List.map_map, List.length_map] at h
  have e : (wordsOf l).map (List.length ∘ tl) = (wordsOf l).map (·.length) := List.map_congr_left fun p _ => (len_tl p).symm
  rw [e] at h
  unfold wgt
  rw [len_tl]
  exact h.symm
theorem wgt_lines (l : Str) : wgt (linesOf l) = l.length + 1 := by
  have h := joinL_len1 10 (spl1_ne 10 (tl l) [])
  rw [joinL_spl, ← lines_tl, List.map_map, List.length_map] at h
  have e : (linesOf l).map (List.length ∘ tl) = (linesOf l).map (·.length) := List.map_congr_left fun p _ => (len_tl p).symm
  rw [e] at h
  unfold wgt
  rw [len_tl]
  exact h.symm
theorem len_app' (x y : Str) : (x ++ y).length = x.length + y.length := by rw [len_tl, tl_append, List.length_append, len_tl, len_tl]
theorem wgt_set (ws : List Str) (k : Nat) (y : Str) : wgt (ws.set k y) ≤ wgt ws + y.length := by
  induction ws generalizing k with
  | nil => simp [wgt]
  | cons a r ih =>
    cases k with
    | zero =>
      simp only [List.set_cons_zero, wgt, List.map_cons, List.sum_cons, List.length_cons]
      omega
    | succ k =>
      have := ih k
      simp only [List.set_cons_succ, wgt, List.map_cons, List.sum_cons, List.length_cons] at this ⊢
      omega
/-! ### texts of deeds -/
def lnD (d : Deed) : Str := Txt.join " " (d.1 :: d.2.map dstr)
theorem tl_lnD (d : Deed) : tl (lineOf d) = tl (lnD d) ++ [10] := by
  unfold lineOf
  rw [tl_app, tl_nl]
  rfl
theorem tl_text (ds : List Deed) : tl (Txt.join "" (ds.map lineOf)) = (ds.map fun d => tl (lnD d) ++ [10]).flatten := by
  rw [join_eq, tl_join]
  have e0 : tl ("" : Str) = [] := by decide +kernel
  rw [e0, List.map_map]
  have : ∀ ps : List (List Nat), joinL [] ps = ps.flatten := by
    intro ps
    induction ps with
    | nil => rfl
    | cons a r ih =>
      by_cases hr : r = []
      · subst hr; simp [joinL]
      · rw [joinL_cons hr, ih]; rfl
  rw [this]
  congr 1
  exact List.map_congr_left fun d _ => tl_lnD d
theorem flat_nl (cs : List (List Nat)) (r : List Nat) : (cs.map fun c => c ++ [10]).flatten ++ r = joinL [10] (cs ++ [r]) := by
  induction cs with
  | nil => rfl
  | cons a b ih =>
    rw [List.cons_append, joinL_cons (by simp), ← ih, List.map_cons, List.flatten_cons]
    simp
theorem lines_text {ds : List Deed} {r : Str} (hd : ∀ d ∈ ds, 10 ∉ tl (lnD d)) (hr : 10 ∉ tl r) : linesOf (Txt.join "" (ds.map lineOf) ++ r) = ds.map lnD ++ [r] := by
  have e : Txt.join "" (ds.map lineOf) ++ r = Txt.join "\n" (ds.map lnD ++ [r]) := by
    refine ext_tl ?_
    rw [tl_app, tl_text, join_eq, tl_join, tl_nl, List.map_append, List.map_map]
    have := flat_nl (ds.map fun d => tl (lnD d)) (tl r)
    rw [List.map_map] at this
    exact this
  rw [e]
  refine lines_join (by simp) fun p hp => ?_
  rcases List.mem_append.mp hp with hp | hp
  · obtain ⟨d, hd', rfl⟩ := List.mem_map.mp hp
    exact hd d hd'
  · rw [List.mem_singleton.mp hp]
    exact hr
theorem lnD_free {d : Deed} (h : DeedOk d) : 10 ∉ tl (lnD d) := by
  unfold lnD
  rw [join_eq, tl_join, tl_sp]
  have key : ∀ ps : List (List Nat), (∀ p ∈ ps, 10 ∉ p) → 10 ∉ joinL [32] ps := by
    intro ps
    induction ps with
    | nil => intro _ z; cases z
    | cons a r ih =>
      intro hp z
      by_cases hr : r = []
      · subst hr
        exact hp a (by simp) z
      · rw [joinL_cons hr] at z
        rcases List.mem_append.mp z with z | z
        · exact hp a (by simp) z
        · rcases List.mem_append.mp z with z | z
          · simp at z
          · exact ih (fun p h => hp p (by simp [h])) z
  refine key _ fun p hp => ?_
  rw [List.map_cons] at hp
  rcases List.mem_cons.mp hp with rfl | hp
  · exact (kinds_free _ h.k).2
  · rw [List.map_map] at hp
    obtain ⟨n, _, rfl⟩ := List.mem_map.mp hp
    exact (dstr_free n).2
theorem sg_text {M : Nat} {ds : List Deed} {r : Str} (hd : ∀ d ∈ ds, (lnD d).length ≤ M) (hr : r.length ≤ M) : SgB M (tl (Txt.join "" (ds.map lineOf) ++ r)) := by
  rw [tl_app, tl_text]
  have := flat_nl (ds.map fun d => tl (lnD d)) (tl r)
  rw [List.map_map] at this
  show SgB M ((ds.map ((fun c => c ++ [10]) ∘ fun d => tl (lnD d))).flatten ++ tl r)
  rw [this]
  refine sg_join fun p hp => ?_
  rcases List.mem_append.mp hp with hp | hp
  · obtain ⟨d, hd', rfl⟩ := List.mem_map.mp hp
    exact sg_short (by rw [← len_tl]; exact hd d hd')
  · rw [List.mem_singleton.mp hp]
    exact sg_short (by rw [← len_tl]; exact hr)
end Lm

namespace Lm
open PySem L2 TL
/-! ### signs that a text may hold -/
def OkC (x : Str) : Prop := ∀ c ∈ tl x, c < 0x110000
theorem mem_joinL {S : List Nat} : ∀ {ps : List (List Nat)} {p : List Nat} {c : Nat}, p ∈ ps → c ∈ p → c ∈ joinL S ps
  | q :: r, p, c, h, hc => by
    by_cases hr : r = []
    · subst hr
      rw [List.mem_singleton.mp h] at hc
      exact hc
    · rw [joinL_cons hr]
      rcases List.mem_cons.mp h with rfl | h
      · exact List.mem_append_left _ hc
      · exact List.mem_append_right _ (List.mem_append_right _ (mem_joinL h hc))
theorem of_joinL {S : List Nat} : ∀ {ps : List (List Nat)} {c : Nat}, c ∈ joinL S ps → c ∈ S ∨ ∃ p ∈ ps, c ∈ p
  | [], _, h => nomatch h
  | q :: r, c, h => by
    by_cases hr : r = []
    · subst hr
      exact .inr ⟨q, by simp, h⟩
    · rw [joinL_cons hr] at h
      rcases List.mem_append.mp h with h | h
      · exact .inr ⟨q, by simp, h⟩
      · rcases List.mem_append.mp h with h | h
        · exact .inl h
        · rcases of_joinL h with h | ⟨p, h1, h2⟩
          · exact .inl h
          · exact .inr ⟨p, by simp [h1], h2⟩
theorem okc_words {l : Str} (h : OkC l) : ∀ p ∈ wordsOf l, OkC p := fun p hp c hc => by
  refine h c ?_
  have e := congrArg tl (join_words l)
  rw [join_eq, tl_join] at e
  rw [← e]
  exact mem_joinL (List.mem_map_of_mem hp) hc
theorem okc_lines {l : Str} (h : OkC l) : ∀ p ∈ linesOf l, OkC p := fun p hp c hc => by
  refine h c ?_
  have e := congrArg tl (join_lines l)
  rw [join_eq, tl_join] at e
  rw [← e]
  exact mem_joinL (List.mem_map_of_mem hp) hc
theorem okc_join {y : Str} {ps : List Str} (hy : OkC y) (h : ∀ p ∈ ps, OkC p) : OkC (Txt.join y ps) := fun c hc => by
  rw [join_eq, tl_join] at hc
  rcases of_joinL hc with h1 | ⟨p, h1, h2⟩
  · exact hy c h1
  · obtain ⟨q, hq, rfl⟩ := List.mem_map.mp h1
    exact h q hq c h2
theorem okc_app {x y : Str} (hx : OkC x) (hy : OkC y) : OkC (x ++ y) := fun c hc => by
  rw [tl_app] at hc
  exact (List.mem_append.mp hc).elim (hx c) (hy c)
theorem okc_dec {x : Str} (h : (tl x).all (fun c => decide (c < 0x110000)) = true) : OkC x := fun c hc => of_decide_eq_true (List.all_eq_true.mp h c hc)
theorem okc_strOk {x : Str} (h : OkC x) : PyData.strOk x = true := by
  unfold PyData.strOk
  rw [Array.all_eq_true']
  intro c hc
  exact decide_eq_true (h c (by simpa using hc))
end Lm

namespace Lm
open PySem L2
/-! ### editions as truths over the numbers of the passages -/
def idx (N : Nat) (S : Nat → Bool) : List Nat := (List.range N).filter S
def cnt (S : Nat → Bool) (c : Nat) : Nat := (idx c S).length
def cutsL (N : Nat) (S : Nat → Bool) : List Nat := 0 :: (idx N S).map (· + 1)
def countsL (N : Nat) (S : Nat → Bool) : List Nat := (List.range (N + 1)).map (cnt S)
def ker (S : Nat → Bool) : Nat → Nat
  | 0 => 0
  | c + 1 => if S c = true then c + 1 else ker S c
def no : Str := ⟨#[]⟩
def pick (ws : List Str) (S : Nat → Bool) : List Str := (idx ws.length S).map fun i => ws.getD i no
theorem idx_mem {N : Nat} {S : Nat → Bool} {i : Nat} : i ∈ idx N S ↔ i < N ∧ S i = true := by unfold idx; rw [List.mem_filter, List.mem_range]
theorem idx_sorted (N : Nat) (S : Nat → Bool) : (idx N S).Pairwise (· < ·) := List.Pairwise.filter _ List.pairwise_lt_range
theorem idx_succ (c : Nat) (S : Nat → Bool) : idx (c + 1) S = idx c S ++ (if S c = true then [c] else []) := by
  unfold idx
  rw [List.range_succ, List.filter_append]
  by_cases h : S c = true <;> simp [h]
theorem idx_len (N : Nat) (S : Nat → Bool) : (idx N S).length ≤ N := by
  unfold idx
  exact Nat.le_trans (List.length_filter_le _ _) (by simp)
theorem cnt_zero (S : Nat → Bool) : cnt S 0 = 0 := rfl
theorem cnt_succ (S : Nat → Bool) (c : Nat) : cnt S (c + 1) = cnt S c + if S c = true then 1 else 0 := by
  unfold cnt
  rw [idx_succ, List.length_append]
  by_cases h : S c = true <;> simp [h]
theorem cnt_mono {S : Nat → Bool} {a b : Nat} (h : a ≤ b) : cnt S a ≤ cnt S b := by
  induction b with
  | zero => have : a = 0 := by omega
            subst this; exact Nat.le_refl _
  | succ b ih =>
    rcases Nat.lt_or_ge a (b + 1) with h1 | h1
    · have := ih (by omega)
      rw [cnt_succ]; omega
    · have : a = b + 1 := by omega
      subst this; exact Nat.le_refl _
theorem idx_pre (S : Nat → Bool) (c d : Nat) : ∃ t, idx (c + d) S = idx c S ++ t := by
  unfold idx
  exact ⟨_, by rw [List.range_add, List.filter_append]⟩
theorem cutsL_len (N : Nat) (S : Nat → Bool) : (cutsL N S).length = cnt S N + 1 := by unfold cutsL cnt; simp
theorem cutsL_succ (c : Nat) (S : Nat → Bool) : cutsL (c + 1) S = cutsL c S ++ (if S c = true then [c + 1] else []) := by
  unfold cutsL
  rw [idx_succ]
  by_cases h : S c = true <;> simp [h]
theorem cuts_last (S : Nat → Bool) : ∀ c, (cutsL c S)[cnt S c]? = some (ker S c)
  | 0 => rfl
  | c + 1 => by
    rw [cutsL_succ, cnt_succ]
    by_cases h : S c = true
    · have hl := cutsL_len c S
      rw [if_pos h, if_pos h, List.getElem?_append_right (by omega), hl, Nat.sub_self]
      show some (c + 1) = some (ker S (c + 1))
      unfold ker
      rw [if_pos h]
    · rw [if_neg h, if_neg h, List.append_nil, Nat.add_zero, cuts_last S c]
      show some (ker S c) = some (ker S (c + 1))
      rw [show ker S (c + 1) = ker S c from by rw [ker]; exact if_neg h]
theorem cuts_at {N c : Nat} (S : Nat → Bool) (h : c ≤ N) : (cutsL N S)[cnt S c]? = some (ker S c) := by
  obtain ⟨t, ht⟩ := idx_pre S c (N - c)
  have e : c + (N - c) = N := by omega
  rw [e] at ht
  have e2 : cutsL N S = cutsL c S ++ t.map (· + 1) := by
    unfold cutsL
    rw [ht]
    simp
  rw [e2, List.getElem?_append_left (by rw [cutsL_len]; omega)]
  exact cuts_last S c
theorem cuts_mem {N c : Nat} {S : Nat → Bool} : c + 1 ∈ cutsL N S ↔ c < N ∧ S c = true := by
  unfold cutsL
  simp only [List.mem_cons, List.mem_map]
  constructor
  · rintro (h | ⟨a, ha, e⟩)
    · omega
    · have : a = c := by omega
      subst this; exact idx_mem.mp ha
  · intro h
    exact .inr ⟨c, idx_mem.mpr h, rfl⟩
theorem counts_at' {N c : Nat} (S : Nat → Bool) (h : c ≤ N) : (countsL N S)[c]? = some (cnt S c) := by
  unfold countsL
  rw [List.getElem?_map, List.getElem?_range (by omega)]
  rfl
/-! ### kernels -/
theorem ker_le (S : Nat → Bool) : ∀ c, ker S c ≤ c
  | 0 => Nat.le_refl _
  | c + 1 => by
    unfold ker
    by_cases h : S c = true
    · rw [if_pos h]; exact Nat.le_refl _
    · rw [if_neg h]; exact Nat.le_succ_of_le (ker_le S c)
theorem ker_fix (S : Nat → Bool) : ∀ c, ker S c = c ↔ c = 0 ∨ ∃ d, c = d + 1 ∧ S d = true
  | 0 => by simp [ker]
  | c + 1 => by
    have hl := ker_le S c
    unfold ker
    by_cases h : S c = true
    · simp [h]
    · simp [h]
      omega
theorem ker_idem (S : Nat → Bool) : ∀ c, ker S (ker S c) = ker S c
  | 0 => rfl
  | c + 1 => by
    by_cases h : S c = true
    · have e : ker S (c + 1) = c + 1 := by rw [ker]; exact if_pos h
      rw [e, e]
    · have e : ker S (c + 1) = ker S c := by rw [ker]; exact if_neg h
      rw [e]; exact ker_idem S c
theorem ker_mono1 (S : Nat → Bool) (c : Nat) : ker S c ≤ ker S (c + 1) := by
  rw [ker]
  have := ker_le S c
  split <;> omega
theorem ker_mono (S : Nat → Bool) {a b : Nat} (h : a ≤ b) : ker S a ≤ ker S b := by
  induction b with
  | zero => have : a = 0 := by omega
            subst this; exact Nat.le_refl _
  | succ b ih =>
    rcases Nat.lt_or_ge a (b + 1) with h1 | h1
    · exact Nat.le_trans (ih (by omega)) (ker_mono1 S b)
    · have : a = b + 1 := by omega
      subst this; exact Nat.le_refl _
/-- the greatest cut not above at which the edition stands -/
theorem ker_ge {S : Nat → Bool} {d c : Nat} (h : d ≤ c) (hd : ker S d = d) : d ≤ ker S c := by
  have := ker_mono S h
  omega
theorem ker_or (S T : Nat → Bool) : ∀ c, ker (fun i => S i || T i) c = max (ker S c) (ker T c)
  | 0 => rfl
  | c + 1 => by
    have h1 := ker_le S c
    have h2 := ker_le T c
    have ih := ker_or S T c
    unfold ker
    by_cases a : S c = true <;> by_cases b : T c = true <;> simp [a, b, ih] <;> omega
theorem ker_congr {S T : Nat → Bool} : ∀ c, (∀ i < c, S i = T i) → ker S c = ker T c
  | 0, _ => rfl
  | c + 1, h => by
    unfold ker
    rw [h c (by omega), ker_congr c fun i hi => h i (by omega)]
theorem ker_all : ∀ c, ker (fun _ => true) c = c
  | 0 => rfl
  | c + 1 => by simp [ker]
theorem ker_none : ∀ c, ker (fun _ => false) c = 0
  | 0 => rfl
  | c + 1 => by
    rw [ker]
    simp [ker_none c]
theorem ker_sub {S T : Nat → Bool} {N : Nat} : (∀ i < N, S i = true → T i = true) ↔ ∀ c ≤ N, ker S c ≤ ker T c := by
  constructor
  · intro h c hc
    have h1 : ker T (ker S c) = ker S c := by
      rw [ker_fix]
      rcases (ker_fix S (ker S c)).mp (ker_idem S c) with e | ⟨d, e, hd⟩
      · exact .inl e
      · have := ker_le S c
        exact .inr ⟨d, e, h d (by omega) hd⟩
    exact ker_ge (ker_le S c) h1
  · intro h i hi hS
    have h1 := h (i + 1) (by omega)
    have h2 : ker S (i + 1) = i + 1 := by rw [ker]; exact if_pos hS
    have h3 := ker_le T (i + 1)
    have h4 : ker T (i + 1) = i + 1 := by omega
    rcases (ker_fix T (i + 1)).mp h4 with e | ⟨d, e, hd⟩
    · omega
    · have : d = i := by omega
      subst this; exact hd
/-- so many passages end at a cut at most just if the cut is at least behind them -/
theorem cuts_le_iff {N c n : Nat} {S : Nat → Bool} {x : Nat} (hc : c ≤ N) (h : (cutsL N S)[n]? = some x) : x ≤ c ↔ n ≤ cnt S c := by
  have srt : (cutsL N S).Pairwise (· < ·) := by
    unfold cutsL
    refine List.pairwise_cons.mpr ⟨fun a ha => ?_, ?_⟩
    · obtain ⟨b, _, e⟩ := List.mem_map.mp ha
      omega
    · refine List.Pairwise.map _ (fun a b hab => ?_) (idx_sorted N S)
      omega
  have hk := cuts_at S hc
  obtain ⟨l1, e1⟩ := List.getElem?_eq_some_iff.mp h
  obtain ⟨l2, e2⟩ := List.getElem?_eq_some_iff.mp hk
  have hkl := ker_le S c
  constructor
  · intro hx
    rcases Nat.lt_or_ge (cnt S c) n with hn | hn
    · exfalso
      have h1 := List.pairwise_iff_getElem.mp srt (cnt S c) n l2 l1 hn
      rw [e1, e2] at h1
      -- x stands in S and is at most c, so it is at most the kernel
      cases n with
      | zero => omega
      | succ n =>
        have h2 : x ∈ (idx N S).map (· + 1) := by
          unfold cutsL at h
          have : ((idx N S).map (· + 1))[n]? = some x := h
          exact List.mem_of_getElem? this
        obtain ⟨d, hd, e⟩ := List.mem_map.mp h2
        have e : d + 1 = x := e
        have h3 : ker S x = x := (ker_fix S x).mpr (.inr ⟨d, e.symm, (idx_mem.mp hd).2⟩)
        have := ker_ge hx h3
        omega
    · exact hn
  · intro hn
    rcases Nat.lt_or_ge n (cnt S c) with h1 | h1
    · have h2 := List.pairwise_iff_getElem.mp srt n (cnt S c) l1 l2 h1
      rw [e1, e2] at h2
      omega
    · have : n = cnt S c := by omega
      subst this
      rw [hk] at h
      have := Option.some.inj h
      omega
theorem cnt_cuts {N n : Nat} {S : Nat → Bool} {x : Nat} (h : (cutsL N S)[n]? = some x) : x ≤ N ∧ cnt S x = n := by
  have hn : n ≤ cnt S N := by
    have := (List.getElem?_eq_some_iff.mp h).1
    rw [cutsL_len] at this
    omega
  have hx : x ≤ N := (cuts_le_iff (Nat.le_refl N) h).mpr hn
  refine ⟨hx, ?_⟩
  have h1 := (cuts_le_iff hx h).mp (Nat.le_refl _)
  rcases Nat.lt_or_ge n (cnt S x) with h2 | h2
  · exfalso
    have hk := cuts_at S hx
    have h3 := (cuts_le_iff (c := x) hx (n := n + 1) (x := (cutsL N S).getD (n + 1) 0) ?_).mpr h2
    · have srt : (cutsL N S).Pairwise (· < ·) := by
        unfold cutsL
        refine List.pairwise_cons.mpr ⟨fun a ha => ?_, ?_⟩
        · obtain ⟨b, _, e⟩ := List.mem_map.mp ha
          omega
        · refine List.Pairwise.map _ (fun a b hab => ?_) (idx_sorted N S)
          omega
      have l2 : n + 1 < (cutsL N S).length := by
        have := (List.getElem?_eq_some_iff.mp hk).1
        omega
      obtain ⟨l1, e1⟩ := List.getElem?_eq_some_iff.mp h
      have h4 := List.pairwise_iff_getElem.mp srt n (n + 1) l1 l2 (by omega)
      rw [List.getD_eq_getElem?_getD, List.getElem?_eq_getElem l2] at h3
      simp at h3
      omega
    · have l2 : n + 1 < (cutsL N S).length := by
        have := (List.getElem?_eq_some_iff.mp hk).1
        omega
      rw [List.getD_eq_getElem?_getD, List.getElem?_eq_getElem l2]
      rfl
  · omega
end Lm

namespace Lm
open PySem L2
def top (i : Nat) : Stmt := PySem.Challenge.pw_leafmarks_k24_rule_texts_refused.main.body.getD i (.Pass ⟨0, 0, 0, 0⟩)
end Lm

namespace Lm
open PySem L2
/-- what the walk asks of the built-in names -/
structure Blt (mg : Str → Option Value) : Prop where
  b_len : mg "len" = none
  b_int : mg "int" = none
  b_range : mg "range" = none
  b_enumerate : mg "enumerate" = none
  b_isinstance : mg "isinstance" = none
  b_list : mg "list" = none
  b_tuple : mg "tuple" = none
  b_str : mg "str" = none
  b_bool : mg "bool" = none
  b_all : mg "all" = none
  b_max : mg "max" = none
  b_zip : mg "zip" = none
section
variable {P : Program} {w : World} {K : PySem.W.Frag} {mg : Str → Option Value} {base : Heap} {f : Addr} {fd : FuncData}
def spFresh (K : PySem.W.Frag) : Sp := fun vs H Q _ => ∃ (a : Addr) (ns : List Int), vs = [.ref a] ∧ SqL K H a (ns.map V.int) ∧ ns.length ≤ 63 ∧ ∀ p c H', H p = none → H c = none → Same H H' → StAt H' p c → Q (.ref p) H'
abbrev s_fresh : Stmt := top 24
theorem sc_fresh : FnScope ["_law_script"] ["_law_script"] (defScope s_fresh) := ⟨rfl, rfl, rfl, by decide +kernel, rfl, by decide +kernel, by decide +kernel⟩
theorem ok_fresh (F : Fun K "_law_fresh" "_law_fresh" s_fresh f fd) (T : Blt mg) : FnOk P w K mg base CX0 1 f fd ["_law_script"] (spFresh K) := by
  refine F.ok sc_fresh (fun vs H Q E h => ?_) (fun cdv A outer s H vs Q E hr h => ?_)
  · obtain ⟨a, ns, rfl, _⟩ := h
    rfl
  · obtain ⟨a, ns, rfl, hS, hl, k⟩ := h
    refine ⟨_, (pss_one (ps_ret (pe_lst (pa_cons (pe_slice sl_list (pv 0) po_none (po_some pe_int)) (pa_cons pe_int (pa_cons pe_int (pa_cons pe_bl pa_nil))))))), ?_⟩
    have hc : cutV (ns.map V.int) none (some 63) = (ns.map V.int) := by
      have e : (ns.map V.int).length = ns.length := List.length_map ..
      unfold cutV
      rw [HT.sIx_none, show (some (63 : Int)) = some ((63 : Nat) : Int) from rfl, HT.sIx_nat, List.drop_zero, e, Nat.min_eq_right hl, Nat.sub_zero, ← e, List.take_length]
    refine ⟨_, rfl, ⟨63, rfl, a, _, rfl, hS, fun c nc => ⟨by show 4 ≤ sizeLine; decide, fun p np => ?_⟩⟩⟩
    have hpc : p ≠ c := (ne_of_none upd_same np).symm
    have np' : H p = none := by rw [← upd_ne (H := H) (o := .lst (cutV (ns.map V.int) none (some 63))) hpc]; exact np
    refine k p c _ np' nc ((Same.upd' nc).trans (Same.upd' np)) ⟨⟨0, 0, false, upd_same⟩, ⟨ns, ?_, hl⟩, hpc.symm⟩
    rw [upd_ne hpc.symm, upd_same, hc]
end
end Lm

namespace Lm
open PySem L2
theorem mem_at {xs : List V} {i : Nat} {x : V} (h : xs[i]? = some x) : x ∈ xs := List.mem_of_getElem? h
theorem fmod_bd (a : Int) {p : Int} (h : 0 < p) : 0 ≤ Int.fmod a p ∧ Int.fmod a p < p := ⟨Int.fmod_nonneg_of_pos a h, Int.fmod_lt_of_pos a h⟩
/-- exactly evaluated: a value, the heap as it was -/
def Vx (te : TE) (σ : St) (H : Hp) (v : V) : Prop := ∀ Q : VK, Q v H → te σ H Q
theorem vx_or {ta tb : TE} {σ : St} {H : Hp} {a b : Bool} (h1 : Vx ta σ H (.bl a)) (h2 : Vx tb σ H (.bl b)) : Vx (tOrV ta tb) σ H (.bl (a || b)) := by
  intro Q q
  refine h1 _ ⟨a, rfl, ?_⟩
  cases a
  · exact iteF (h2 _ q)
  · exact iteT q
theorem vx_and {ta tb : TE} {σ : St} {H : Hp} {a b : Bool} (h1 : Vx ta σ H (.bl a)) (h2 : Vx tb σ H (.bl b)) : Vx (tAndV ta tb) σ H (.bl (a && b)) := by
  intro Q q
  refine h1 _ ⟨a, rfl, ?_⟩
  cases a
  · exact iteF q
  · exact iteT (h2 _ q)
theorem sq_asgB {te : TE} {g : TG} {tz : TS} {D : Ends} {σ : St} {H : Hp} (h : ∀ Q : VK, (∀ b : Bool, Q (.bl b) H) → te σ H Q) (k : ∀ b : Bool, g (.bl b) σ H (tz D)) : tSeq (tAsg te g) tz D σ H := h _ k
section
variable {P : Program} {w : World} {K : PySem.W.Frag} {mg : Str → Option Value} {base : Heap} {f : Addr} {fd : FuncData}
def spFill : Sp := fun vs H Q _ => ∃ (st c : Addr), vs = [.ref st] ∧ StAt H st c ∧ ∀ H', StAt H' st c → Kp st H H' → Q .non H'
abbrev s_fill : Stmt := top 25
theorem sc_fill : FnScope ["_law_state", "_law_cells", "_law_nth", "_law_seed", "_law_k", "_law_prime", "_law_far"] ["_law_state"] (defScope s_fill) := ⟨rfl, rfl, rfl, by decide +kernel, rfl, by decide +kernel, by decide +kernel⟩
theorem ok_fill (F : Fun K "_law_fill" "_law_fill" s_fill f fd) (T : Blt mg) : FnOk P w K mg base CX0 1 f fd ["_law_state"] spFill := by
  refine F.ok sc_fill (fun vs H Q E h => ?_) (fun cdv A outer s H vs Q E hr h => ?_)
  · obtain ⟨st, c, rfl, _⟩ := h
    rfl
  · obtain ⟨st, c, rfl, S, k⟩ := h
    obtain ⟨⟨n, l, b, h1⟩, ⟨ns, h2, hl⟩, ne⟩ := id S
    refine ⟨_, (pss_cons (ps_par (i := 1) (j := 2) (by rfl) sc_fill.nd rfl rfl (by decide) rfl rfl (pa_cons (pe_ix ix_list (pv 0) pe_int (fun _ _ => rfl)) (pa_cons (pe_ix ix_list (pv 0) pe_int (fun _ _ => rfl)) pa_nil)) (by rfl))
        (pss_cons (ps_set (i := 3) sc_fill.nd rfl (by first | exact Or.inl rfl | exact Or.inr rfl) (pe_op op_add (pe_op op_mul pe_int (pv 2)) pe_int))
        (Evl.pss_cut (ps_if (pt_cmpR op_gt (pe_callB call_len_seq (by rfl) T.b_len PySem.boot_len (pa_cons (pv 1) pa_nil)) pe_int (nomark _)) (pss_one (ps_set (i := 3) sc_fill.nd rfl (by first | exact Or.inl rfl | exact Or.inr rfl) (pe_op op_add (pe_op op_mul pe_int (pe_op op_fdivN (pv 2) (pe_callB call_len_seq (by rfl) T.b_len PySem.boot_len (pa_cons (pv 1) pa_nil)))) (pe_ix ix_list (pv 1) (pe_op op_modN (pe_callTy call_int1 (by rfl) T.b_int (by decide +kernel) (pa_cons (pv 2) pa_nil)) (pe_callB call_len_seq (by rfl) T.b_len PySem.boot_len (pa_cons (pv 1) pa_nil))) (fun _ _ => rfl))))) pss_nil)
        (pss_cons (ps_asg (pe_op op_add (pv 2) pe_int) (pg_sub (pv 0) pe_int set_list))
        (pss_cons (ps_asg (pe_or (pe_cmpR op_ge (pv 2) (pe_callB call_len_seq (by rfl) T.b_len PySem.boot_len (pa_cons (pv 1) pa_nil)) (nomark _)) (pe_one (pe_cmpR op_lt (pv 3) (pe_op op_pow pe_int pe_int) (nomark _)))) (pg_sub (pv 0) pe_int set_list))
        (pss_cons (ps_asg (pe_op op_sub (pv 3) (pe_op op_pow pe_int pe_int)) (pg_sub (pv 0) pe_int set_list))
        (pss_one (ps_if (pt_val (pe_ix ix_list (pv 0) pe_int (fun _ _ => rfl))) (pss_cons (ps_asg pe_int (pg_sub (pv 0) pe_int set_list))
        (pss_one (ps_for PassesOwn.never rfl (pi_enumA rfl T.b_enumerate (pa_cons (pe_tup (pa_cons pe_int (pa_cons pe_int (pa_cons pe_int (pa_cons pe_int (pa_cons pe_int pa_nil)))))) pa_nil)) (pg_tup rfl (pgs_cons (pg_name (i := 4) sc_fill.nd rfl (by first | exact Or.inl rfl | exact Or.inr rfl)) (pgs_cons (pg_name (i := 5) sc_fill.nd rfl (by first | exact Or.inl rfl | exact Or.inr rfl)) pgs_nil))) (pss_cons (ps_set (i := 6) sc_fill.nd rfl (by first | exact Or.inl rfl | exact Or.inr rfl) (pe_op op_modN (pe_callTy call_int1 (by rfl) T.b_int (by decide +kernel) (pa_cons (pe_op op_mul (pe_op op_add (pe_op op_add (pv 3) (pe_op op_mul (pe_op op_mul pe_int (pv 4)) (pv 4))) (pe_op op_mul pe_int (pv 4))) (pe_op op_add pe_int (pe_op op_mul pe_int (pv 4)))) pa_nil)) (pv 5)))
        (pss_one (ps_asg (pe_op op_add (pe_op op_mul (pe_ix ix_list (pv 0) pe_int (fun _ _ => rfl)) (pv 5)) (pe_op op_modN (pe_callTy call_int1 (by rfl) T.b_int (by decide +kernel) (pa_cons (pe_op op_pow (pv 6) pe_int) pa_nil)) (pv 5))) (pg_sub (pv 0) pe_int set_list))))))) pss_nil)))))))), ?_⟩
    refine ⟨_, rfl, _, _, _, _, rfl, rfl, SqL.of h1, rfl, _, rfl, _, _, _, _, rfl, rfl, SqL.of h1, rfl, _, _, rfl, ?_⟩
    refine ⟨_, rfl, _, _, rfl, rfl, .inl ⟨by decide, by decide⟩, _, _, rfl, rfl, ?_⟩
    refine ⟨fun σ' H' => H = H' ∧ ∃ seed : Int, σ' = [some (.ref st), some (.ref c), some (.int n), some (.int seed), none, none, none], ?_, ?_⟩
    · refine ⟨_, rfl, _, _, rfl, .inl (SqL.of h2), _, _, rfl, rfl, _, rfl, ite2 (fun hp => ?_) (fun _ => ⟨rfl, _, rfl⟩)⟩
      have e : (ns.map V.int).length = ns.length := List.length_map ..
      have hp : 0 < ns.length := by
        have hp := of_decide_eq_true hp
        rw [e] at hp; omega
      refine ⟨_, rfl, _, rfl, _, _, rfl, .inl (SqL.of h2), _, _, rfl, rfl, ⟨by rw [e]; omega, by rw [e]; omega⟩, _, _, rfl, rfl, .inl ⟨by decide, by decide⟩, ?_⟩
      obtain ⟨m1, m2⟩ := fmod_bd n (p := ((ns.map V.int).length : Int)) (by rw [e]; omega)
      have hj : (Int.fmod n ((ns.map V.int).length : Int)).toNat < ns.length := by rw [e] at m1 m2 ⊢; omega
      refine ⟨_, rfl, _, rfl, .inl ⟨_, rfl, _, rfl, _, _, rfl, .inl (SqL.of h2), _, _, rfl, rfl, by rw [e]; omega, _, _, _, _, rfl, rfl, SqL.of h2, at_of (j := (Int.fmod n ((ns.map V.int).length : Int)).toNat) (Int.toNat_of_nonneg m1).symm (by rw [List.getElem?_map, List.getElem?_eq_getElem hj]; rfl), _, _, rfl, rfl, ⟨rfl, _, rfl⟩⟩⟩
    · rintro σ' H' ⟨rfl, seed, rfl⟩
      refine ⟨_, rfl, _, _, rfl, rfl, _, rfl, _, _, _, _, rfl, rfl, h1, rfl, ?_⟩
      generalize hH1 : upd H st _ = H1
      have g1 : H1 st = some (.lst [.ref c, .int (n + 1), .int l, .bl b]) := by rw [← hH1]; exact upd_same
      have g2 : H1 c = some (.lst (ns.map V.int)) := by rw [← hH1, upd_ne ne]; exact h2
      have kp1 : Kp st H H1 := by rw [← hH1]; exact Kp.upd _ _ _
      clear hH1
      -- far or not
      dsimp only
      refine sq_asgB (fun Q q => ?_) fun b' => ?_
      · refine ⟨_, rfl, _, rfl, _, _, rfl, .inl (SqL.of g2), _, _, rfl, rfl, _, rfl, ite2 (fun _ => q true) (fun _ => ?_)⟩
        exact ⟨_, rfl, _, _, rfl, rfl, ⟨by decide, by decide, by decide⟩, _, _, rfl, rfl, q _⟩
      refine ⟨_, rfl, _, _, _, _, rfl, rfl, g1, rfl, ?_⟩
      generalize hH2 : upd H1 st _ = H2
      have g3 : H2 st = some (.lst [.ref c, .int (n + 1), .int l, .bl b']) := by rw [← hH2]; exact upd_same
      have g4 : H2 c = some (.lst (ns.map V.int)) := by rw [← hH2, upd_ne ne]; exact g2
      have kp2 : Kp st H H2 := by rw [← hH2]; exact kp1.trans (Kp.upd _ _ _)
      clear hH2
      refine ⟨_, rfl, _, _, rfl, rfl, ⟨by decide, by decide, by decide⟩, _, _, rfl, rfl, _, rfl, _, _, _, _, rfl, rfl, g3, rfl, ?_⟩
      generalize hH3 : upd H2 st _ = H3
      obtain ⟨l3, g5⟩ : ∃ l3, H3 st = some (.lst [.ref c, .int (n + 1), .int l3, .bl b']) := ⟨_, by rw [← hH3]; exact upd_same⟩
      have g6 : H3 c = some (.lst (ns.map V.int)) := by rw [← hH3, upd_ne ne]; exact g4
      have kp3 : Kp st H H3 := by rw [← hH3]; exact kp2.trans (Kp.upd _ _ _)
      clear hH3
      refine ⟨_, rfl, _, _, _, _, rfl, rfl, SqL.of g5, rfl, _, rfl, ite2 (fun _ => ?_) (fun _ => k _ ⟨⟨_, _, _, g5⟩, ⟨ns, g6, hl⟩, ne⟩ kp3)⟩
      refine ⟨_, rfl, _, _, _, _, rfl, rfl, g5, rfl, ?_⟩
      generalize hH4 : upd H3 st _ = H4
      have g7 : H4 st = some (.lst [.ref c, .int (n + 1), .int 0, .bl b']) := by rw [← hH4]; exact upd_same
      have g8 : H4 c = some (.lst (ns.map V.int)) := by rw [← hH4, upd_ne ne]; exact g6
      have kp4 : Kp st H H4 := by rw [← hH4]; exact kp3.trans (Kp.upd _ _ _)
      clear hH4
      refine ⟨by show 5 ≤ sizeLine; decide, fun t nt => ?_⟩
      have hts : t ≠ st := (ne_of_none g7 nt).symm
      have htc : t ≠ c := (ne_of_none g8 nt).symm
      refine ⟨t, _, rfl, .inr ⟨SqT.of upd_same, for_it (walk_enumT (K := K) (xs := [V.int 2147483647, V.int 2147483629, V.int 2147483587, V.int 2147483579, V.int 2147483563])) (fun i σ' H' => ∃ (u v x : Option V) (l' : Int), σ' = [some (.ref st), some (.ref c), some (.int n), some (.int seed), u, v, x] ∧ Kp st (upd H4 t (.tup [V.int 2147483647, V.int 2147483629, V.int 2147483587, V.int 2147483579, V.int 2147483563])) H' ∧ H' st = some (.lst [.ref c, .int (n + 1), .int l', .bl b'])) ?_ ?_ ?_ ?_⟩⟩
      · exact ⟨_, _, _, _, rfl, Kp.refl _ _, by rw [upd_ne hts.symm]; exact g7⟩
      · rintro i σ' H' _ ⟨u, v, x, l', rfl, e, _⟩
        exact SqT.of (e _ _ hts upd_same)
      · rintro i y σ' H' H'' hi ⟨u, v, x, l', rfl, e, e2⟩ ⟨T, x1, x2, rfl, nT, rfl, hx1, hx2⟩
        obtain ⟨pr, rfl, pr0, pr1⟩ : ∃ pr : Int, x2 = .int pr ∧ 0 < pr ∧ pr < 2147483648 := by
          have hm := mem_at hx2
          simp only [List.mem_cons, List.not_mem_nil, or_false] at hm
          rcases hm with rfl | rfl | rfl | rfl | rfl <;> exact ⟨_, rfl, by decide, by decide⟩
        cases (Option.some.inj hx1)
        have hi : i < 5 := hi
        have hTs : T ≠ st := (ne_of_none e2 nT).symm
        refine ⟨T, _, rfl, SqT.of upd_same, rfl, _, _, rfl, _, _, rfl, rfl, ?_⟩
        refine ⟨_, rfl, _, rfl, _, _, rfl, rfl, .inl ⟨by decide, by decide⟩, _, rfl, _, _, rfl, rfl, .inr ⟨by omega, by omega⟩, _, _, rfl, rfl, ?_⟩
        refine ⟨_, rfl, _, _, rfl, rfl, .inl ⟨by decide, by decide⟩, _, _, rfl, rfl, _, rfl, _, _, rfl, rfl, .inl ⟨by decide, by decide⟩, _, _, rfl, rfl, _, _, rfl, rfl, .inr ⟨by omega, by omega⟩, ?_⟩
        refine .inl ⟨_, rfl, _, rfl, _, _, rfl, rfl, by omega, ?_⟩
        generalize hfar : Int.fmod _ pr = far
        have hfar2 := fmod_bd (((seed + 10007 * (i : Int) * (i : Int) + 101 * (i : Int)) * (48271 + 2 * (i : Int)))) pr0
        rw [hfar] at hfar2
        refine ⟨_, rfl, _, _, _, _, rfl, rfl, SqL.of (by rw [upd_ne hTs.symm]; exact e2), rfl, _, rfl, _, _, rfl, rfl, .inr ⟨by omega, by omega⟩, ?_⟩
        refine ⟨_, rfl, _, _, rfl, rfl, ⟨by decide, by decide, by omega⟩, .inl ⟨_, rfl, _, rfl, _, _, rfl, rfl, by omega, _, _, rfl, rfl, _, rfl, _, _, _, _, rfl, rfl, by rw [upd_ne hTs.symm]; exact e2, rfl, ?_⟩⟩
        refine ⟨_, _, _, _, rfl, (e.trans (Kp.of (Same.upd' nT))).trans (Kp.upd _ _ _), upd_same⟩
      · rintro σ' H' ⟨u, v, x, l', rfl, e, e2⟩
        exact k _ ⟨⟨_, _, _, e2⟩, ⟨ns, e _ _ ne (by rw [upd_ne htc.symm]; exact g8), hl⟩, ne⟩ ((kp4.trans (Kp.of (Same.upd' nt))).trans e)
end
end Lm

namespace Lm
open PySem L2
/-! ### what is wanted may be weakened -/
def MonE (te : TE) : Prop := ∀ σ H (Q Q' : VK), (∀ v H1, Q v H1 → Q' v H1) → te σ H Q → te σ H Q'
def MonT (tt : TT) : Prop := ∀ σ H (Q Q' : Bool → Hp → Prop), (∀ b H1, Q b H1 → Q' b H1) → tt σ H Q → tt σ H Q'
def MonR (r : R2) : Prop := ∀ x y H (Q Q' : VK), (∀ v H1, Q v H1 → Q' v H1) → r x y H Q → r x y H Q'
theorem monE_var {i : Nat} : MonE (tVar i) := fun σ H Q Q' h ⟨v, e, q⟩ => ⟨v, e, h _ _ q⟩
theorem monE_c {v : V} : MonE (tC v) := fun σ H Q Q' h q => h _ _ q
theorem monE_op {r : R2} {ta tb : TE} (hr : MonR r) (ha : MonE ta) (hb : MonE tb) : MonE (tOp r ta tb) := fun σ H Q Q' h q => ha _ _ _ _ (fun x H1 q => hb _ _ _ _ (fun y H2 q => hr _ _ _ _ _ h q) q) q
theorem mon_I0 {g : Int → Int → V} : MonR (rI0 g) := fun x y H Q Q' h ⟨i, j, e1, e2, q⟩ => ⟨i, j, e1, e2, h _ _ q⟩
theorem mon_I {C : Int → Int → Prop} {g : Int → Int → V} : MonR (rI C g) := fun x y H Q Q' h ⟨i, j, e1, e2, c, q⟩ => ⟨i, j, e1, e2, c, h _ _ q⟩
theorem mon_ixL {K : PySem.W.Frag} : MonR (rIxL K) := fun x y H Q Q' h ⟨p, xs, i, v, e1, e2, e3, e4, q⟩ => ⟨p, xs, i, v, e1, e2, e3, e4, h _ _ q⟩
theorem mon_eq : MonR rEq := fun x y H Q Q' h ⟨e, q⟩ => ⟨e, h _ _ q⟩
theorem monT_test {te : TE} (he : MonE te) : MonT (tTest te) := fun σ H Q Q' h q => he _ _ _ _ (fun x H1 ⟨k, e, q⟩ => ⟨k, e, h _ _ q⟩) q
theorem monT_B {te : TE} (he : MonE te) : MonT (tB te) := fun σ H Q Q' h q => he _ _ _ _ (fun x H1 ⟨k, e, q⟩ => ⟨k, e, h _ _ q⟩) q
theorem monT_and {t u : TT} (ht : MonT t) (hu : MonT u) : MonT (tAnd t u) := fun σ H Q Q' h q => ht _ _ _ _ (fun b H1 q => by cases b with | true => exact hu _ _ _ _ h q | false => exact h _ _ q) q
theorem monT_or {t u : TT} (ht : MonT t) (hu : MonT u) : MonT (tOr t u) := fun σ H Q Q' h q => ht _ _ _ _ (fun b H1 q => by cases b with | true => exact h _ _ q | false => exact hu _ _ _ _ h q) q
section
variable {P : Program} {w : World} {K : PySem.W.Frag} {mg : Str → Option Value} {base : Heap} {f : Addr} {fd : FuncData}
def spTake : Sp := fun vs H Q _ => ∃ (st c : Addr) (m : Int), vs = [.ref st, .int m] ∧ StAt H st c ∧ 0 < m ∧ m < 1073741824 ∧ ∀ d H', 0 ≤ d → d < m → StAt H' st c → Kp st H H' → Q (.int d) H'
abbrev s_take : Stmt := top 26
theorem sc_take : FnScope ["_law_state", "_law_many", "_law_laps", "_law_digit"] ["_law_state", "_law_many"] (defScope s_take) := ⟨rfl, rfl, rfl, by decide +kernel, rfl, by decide +kernel, by decide +kernel⟩
theorem ok_take {fF : Addr} {fdF : FuncData} (F : Fun K "_law_take" "_law_take" s_take f fd) (T : Blt mg) (D_fill : DefOk P w K mg base 1 "_law_fill" fF fdF ["_law_state"] spFill) : FnOk P w K mg base CX0 2 f fd ["_law_state", "_law_many"] spTake := by
  refine F.ok sc_take (fun vs H Q E h => ?_) (fun cdv A outer s H vs Q E hr h => ?_)
  · obtain ⟨st, c, m, rfl, _⟩ := h
    rfl
  · obtain ⟨st, c, m, rfl, S, m0, m1, k⟩ := h
    refine ⟨_, (pss_cons (ps_set (i := 2) sc_take.nd rfl (by first | exact Or.inl rfl | exact Or.inr rfl) pe_int)
        (pss_cons (ps_while PassesOwn.never (PW.pt (pw_and (pt_cmpR op_lt (pv 2) pe_int (nomark _)) (pw_and1 (PW.pt (pw_or (pt_cmpR op_eq (pe_ix ix_list (pv 0) pe_int (fun _ _ => rfl)) pe_int (nomark _)) (pw_or1 (PW.pt (pw_and (pt_val (pe_ix ix_list (pv 0) pe_int (fun _ _ => rfl))) (pw_and1 (pt_cmpR op_lt (pe_ix ix_list (pv 0) pe_int (fun _ _ => rfl)) (pe_op op_mul (pv 1) pe_int) (nomark _))))))))))) (pss_cons (ps_expr (pe_d D_fill (hr.mono (by decide)) (pa_cons (pv 0) pa_nil)))
        (pss_cons (ps_aug (i := 2) sc_take.nd rfl (by first | exact Or.inl rfl | exact Or.inr rfl) pe_int ip_add)
        (pss_one (ps_if (PW.pt (pw_and (pt_val (pe_ix ix_list (pv 0) pe_int (fun _ _ => rfl))) (pw_and1 (pt_cmpR op_lt (pe_ix ix_list (pv 0) pe_int (fun _ _ => rfl)) (pe_op op_mul (pv 1) pe_int) (nomark _))))) (pss_one (ps_asg (pe_op op_add (pe_ix ix_list (pv 0) pe_int (fun _ _ => rfl)) (pe_op op_mul (pe_op op_mul (pv 1) pe_int) (pe_op op_add pe_int (pe_op op_modN (pe_callTy call_int1 (by rfl) T.b_int (by decide +kernel) (pa_cons (pe_ix ix_list (pv 0) pe_int (fun _ _ => rfl)) pa_nil)) pe_int)))) (pg_sub (pv 0) pe_int set_list))) pss_nil)))))
        (pss_cons (ps_set (i := 3) sc_take.nd rfl (by first | exact Or.inl rfl | exact Or.inr rfl) (pe_op op_modN (pe_callTy call_int1 (by rfl) T.b_int (by decide +kernel) (pa_cons (pe_ix ix_list (pv 0) pe_int (fun _ _ => rfl)) pa_nil)) (pv 1)))
        (pss_cons (ps_asg (pe_op op_fdivN (pe_ix ix_list (pv 0) pe_int (fun _ _ => rfl)) (pv 1)) (pg_sub (pv 0) pe_int set_list))
        (pss_one (ps_ret (pv 3))))))), ?_⟩
    refine while_by (fun σ' H' => ∃ (i : Nat), σ' = [some (.ref st), some (.int m), some (.int (i : Int)), none] ∧ i ≤ 64 ∧ StAt H' st c ∧ Kp st H H') (fun σ' _ => match σ' with | [_, _, some (.int i), _] => (64 - i).toNat | _ => 0) ⟨0, rfl, by decide, S, Kp.refl _ _⟩ ?_ ?_
    · rintro σ' H' ⟨i, rfl, hi, S', e⟩
      obtain ⟨⟨n, l, b, h1⟩, ⟨ns, h2, hl⟩, ne⟩ := id S'
      -- behind the loop
      have after : tSeq (tAsg (tOp (rI (fun x j => j ≠ 0) fun i j => V.int (i.fmod j)) (tCB (fun xs H Q => (∃ i, xs = [V.int i] ∧ Q (V.int i) H) ∨ ∃ k, xs = [V.bl k] ∧ Q (V.int (if k = true then 1 else 0)) H) (tCons (tOp (rIxL K) (tVar 0) (tC (.int 2))) tNil)) (tVar 1)) (gName 3))
          (tSeq (tAsg (tOp (rI CDivN fun i j => .int (i.fdiv j)) (tOp (rIxL K) (tVar 0) (tC (.int 2))) (tVar 1)) (gSub (tVar 0) (tC (.int 2)) rSetL)) (tRet (tVar 3))) { nx := fun _ H' => Q .non H', rt := Q } [some (.ref st), some (.int m), some (.int (i : Int)), none] H' := by
        refine ⟨_, rfl, _, _, _, _, rfl, rfl, SqL.of h1, rfl, .inl ⟨_, rfl, _, rfl, _, _, rfl, rfl, by omega, ?_⟩⟩
        have hd := fmod_bd l m0
        refine ⟨_, rfl, _, _, _, _, rfl, rfl, SqL.of h1, rfl, _, rfl, _, _, rfl, rfl, ⟨by omega, by omega⟩, _, rfl, _, _, _, _, rfl, rfl, h1, rfl, _, rfl, ?_⟩
        exact k _ _ hd.1 hd.2 ⟨⟨_, _, _, upd_same⟩, ⟨ns, by rw [upd_ne ne]; exact h2, hl⟩, ne⟩ (e.trans (Kp.upd _ _ _))
      refine ⟨_, rfl, _, _, rfl, rfl, _, rfl, ite2 (fun hc => ?_) (fun _ => iteF after)⟩
      have hc : i < 64 := by have := of_decide_eq_true hc; omega
      refine ⟨_, rfl, _, _, _, _, rfl, rfl, SqL.of h1, rfl, rfl, _, rfl, ite2 (fun _ => ?b1) (fun _ => ⟨_, rfl, _, _, _, _, rfl, rfl, SqL.of h1, rfl, _, rfl, ite2 (fun _ => ⟨_, rfl, _, _, _, _, rfl, rfl, SqL.of h1, rfl, _, rfl, _, _, rfl, rfl, .inr ⟨by decide, by decide⟩, _, _, rfl, rfl, _, rfl, ite2 (fun _ => ?b2) (fun _ => ?c1)⟩) (fun _ => ?c2)⟩)⟩
      case c1 => exact after
      case c2 => exact after
      all_goals
        refine ⟨_, rfl, st, c, rfl, S', fun H2 S2 e2 => ?_⟩
        obtain ⟨⟨n2, l2, b2, g1⟩, ⟨ns2, g2, gl⟩, _⟩ := id S2
        have fin : ∀ H3, StAt H3 st c → Kp st H2 H3 → (∃ j : Nat, [some (V.ref st), some (.int m), some (.int ((i : Int) + 1)), none] = [some (.ref st), some (.int m), some (.int (j : Int)), none] ∧ j ≤ 64 ∧ StAt H3 st c ∧ Kp st H H3) ∧ (64 - ((i : Int) + 1)).toNat < (64 - (i : Int)).toNat :=
          fun H3 S3 e3 => ⟨⟨i + 1, by simp, by omega, S3, (e.trans e2).trans e3⟩, by omega⟩
        refine ⟨_, rfl, _, _, rfl, rfl, ?_⟩
        refine ⟨_, rfl, _, _, _, _, rfl, rfl, SqL.of g1, rfl, _, rfl, ite2 (fun _ => ⟨_, rfl, _, _, _, _, rfl, rfl, SqL.of g1, rfl, _, rfl, _, _, rfl, rfl, .inr ⟨by decide, by decide⟩, _, _, rfl, rfl, _, rfl, ite2 (fun _ => ?_) (fun _ => fin _ S2 (Kp.refl _ _))⟩) (fun _ => fin _ S2 (Kp.refl _ _))⟩
        have hr2 := fmod_bd l2 (p := 4093) (by decide)
        refine ⟨_, rfl, _, _, _, _, rfl, rfl, SqL.of g1, rfl, _, rfl, _, _, rfl, rfl, .inr ⟨by decide, by decide⟩, _, rfl, _, _, _, _, rfl, rfl, SqL.of g1, rfl, .inl ⟨_, rfl, _, _, rfl, rfl, (by show (4093 : Int) ≠ 0; decide), _, _, rfl, rfl, _, _, rfl, rfl, .inr ⟨by omega, by omega⟩, _, _, rfl, rfl, _, rfl, _, _, _, _, rfl, rfl, g1, rfl, ?_⟩⟩
        exact fin _ ⟨⟨_, _, _, upd_same⟩, ⟨ns2, by rw [upd_ne ne]; exact g2, gl⟩, ne⟩ (Kp.upd _ _ _)
    · exact monT_and (monT_test (monE_op mon_I0 (monE_var) (monE_c))) (monT_or (monT_test (monE_op mon_eq (monE_op mon_ixL monE_var monE_c) monE_c)) (monT_and (monT_B (monE_op mon_ixL monE_var monE_c)) (monT_test (monE_op mon_I0 (monE_op mon_ixL monE_var monE_c) (monE_op mon_I monE_var monE_c)))))
end
end Lm

namespace Lm
open PySem L2
section
variable {P : Program} {w : World} {K : PySem.W.Frag} {mg : Str → Option Value} {base : Heap} {f : Addr} {fd : FuncData}
def spOneA (K : PySem.W.Frag) : Sp := fun vs H Q _ => ∃ (st c t : Addr) (xs : List V), vs = [.ref st, .ref t] ∧ StAt H st c ∧ t ≠ st ∧ (SqL K H t xs ∨ SqT K H t xs) ∧ 0 < xs.length ∧ xs.length < 1073741824 ∧ ∀ v H', v ∈ xs → StAt H' st c → Kp st H H' → Q v H'
def spOne (K : PySem.W.Frag) : Sp := fun vs H Q _ => ∃ (st c t : Addr) (xs : List V), vs = [.ref st, .ref t] ∧ StAt H st c ∧ t ≠ st ∧ SqT K H t xs ∧ 0 < xs.length ∧ xs.length < 1073741824 ∧ ∀ v H', v ∈ xs → StAt H' st c → Kp st H H' → Q v H'
abbrev s_one : Stmt := top 27
theorem sc_one : FnScope ["_law_state", "_law_things"] ["_law_state", "_law_things"] (defScope s_one) := ⟨rfl, rfl, rfl, by decide +kernel, rfl, by decide +kernel, by decide +kernel⟩
theorem ok_oneA {fT : Addr} {fdT : FuncData} (F : Fun K "_law_one" "_law_one" s_one f fd) (T : Blt mg) (D_take : DefOk P w K mg base 2 "_law_take" fT fdT ["_law_state", "_law_many"] spTake) : FnOk P w K mg base CX0 3 f fd ["_law_state", "_law_things"] (spOneA K) := by
  refine F.ok sc_one (fun vs H Q E h => ?_) (fun cdv A outer s H vs Q E hr h => ?_)
  · obtain ⟨st, c, t, xs, rfl, _⟩ := h
    rfl
  · obtain ⟨st, c, t, xs, rfl, S, hts, hq, l0, l1, k⟩ := h
    refine ⟨_, (pss_one (ps_ret (pe_ix ix_seq (pv 1) (pe_d D_take (hr.mono (by decide)) (pa_cons (pv 0) (pa_cons (pe_callB call_len_seq (by rfl) T.b_len PySem.boot_len (pa_cons (pv 1) pa_nil)) pa_nil))) (fun _ _ => rfl)))), ?_⟩
    refine ⟨_, rfl, _, rfl, _, rfl, _, _, rfl, hq, st, c, _, rfl, S, by omega, by omega, fun d H' d0 d1 S' e => ?_⟩
    have hd : d.toNat < xs.length := by omega
    have at_ := at_of (Int.toNat_of_nonneg d0).symm (List.getElem?_eq_getElem hd)
    have fin := k _ _ (List.getElem_mem hd) S' e
    rcases hq with hq | hq
    · exact .inl ⟨t, xs, d, _, rfl, rfl, e.seqL hts hq, at_, fin⟩
    · exact .inr (.inl ⟨t, xs, d, _, rfl, rfl, e.seqT hts hq, at_, fin⟩)
theorem ok_one {fT : Addr} {fdT : FuncData} (F : Fun K "_law_one" "_law_one" s_one f fd) (T : Blt mg) (D_take : DefOk P w K mg base 2 "_law_take" fT fdT ["_law_state", "_law_many"] spTake) : FnOk P w K mg base CX0 3 f fd ["_law_state", "_law_things"] (spOne K) :=
  (ok_oneA F T D_take).imp fun vs H Q E ⟨st, c, t, xs, h1, h2, h3, h4, h5, h6, h7⟩ => ⟨st, c, t, xs, h1, h2, h3, .inr h4, h5, h6, h7⟩
/-! ### the words -/
def sg (c : Nat) : Str := ⟨#[c]⟩
def two (c d : Nat) : Str := ⟨#[c, d]⟩
def row2 (c : Nat) : List Str := [103, 104, 105, 106, 107, 108, 109, 110, 111, 112].map (two c)
def w0 : List Str := ["a", "b", "k", "zz", "abcdefgh"]
def allW : List Str := w0 ++ [97, 98, 99, 100, 101, 102].flatMap row2
theorem two_eq (c d : Nat) : sg c ++ sg d = two c d := rfl
theorem len1 (c : Nat) : (sg c).length = 1 := rfl
def spAllW : Sp := fun vs H Q _ => vs = [] ∧ ∀ p H', H p = none → Same H H' → H' p = some (.lst (allW.map V.str)) → Q (.ref p) H'
abbrev s_all_words : Stmt := top 29
theorem sc_all_words : FnScope ["_law_found", "_law_x", "_law_y"] [] (defScope s_all_words) := ⟨rfl, rfl, rfl, by decide +kernel, rfl, by decide +kernel, by decide +kernel⟩
theorem sixL : ("abcdef" : Str).cps = #[97, 98, 99, 100, 101, 102] := by decide +kernel
theorem tenL : ("ghijklmnop" : Str).cps = #[103, 104, 105, 106, 107, 108, 109, 110, 111, 112] := by decide +kernel
theorem ok_all_words (F : Fun K "_law_all_words" "_law_all_words" s_all_words f fd) (T : Blt mg) : FnOk P w K mg base CX0 1 f fd [] spAllW := by
  refine F.ok sc_all_words (fun vs H Q E h => ?_) (fun cdv A outer s H vs Q E hr h => ?_)
  · obtain ⟨rfl, _⟩ := h
    rfl
  · obtain ⟨rfl, k⟩ := h
    refine ⟨_, (pss_cons (ps_set (i := 0) sc_all_words.nd rfl (by first | exact Or.inl rfl | exact Or.inr rfl) (pe_lst (pa_cons pe_str (pa_cons pe_str (pa_cons pe_str (pa_cons pe_str (pa_cons pe_str pa_nil)))))))
        (pss_cons (ps_for PassesOwn.never rfl (pi_str pe_str) (pg_name (i := 1) sc_all_words.nd rfl (by first | exact Or.inl rfl | exact Or.inr rfl)) (pss_one (ps_expr (pe_bm PySem.F.plainAttrs_list PySem.F.slot_list_extend PySem.F.type_list_extend mt_extend (pv 0) (by exact (pa_cons (pe_lc (own := [("_law_y", 2)]) (g := gName 2) (tt := tYes) (te := (tOp rAddS (tVar 1) (tVar 2))) rfl sc_all_words.nd (pi_str pe_str) (blkOk_by (own := [("_law_y", 2)]) (by kernel_rfl)) (fun _ _ _ _ _ => (pg_name (i := 2) sc_all_words.nd rfl (by first | exact Or.inl rfl | exact Or.inr rfl))) (fun _ _ _ _ _ => pts_nil) (fun _ _ _ _ _ => by exact (pe_op op_add_str (pv 1) (pv 2)))) pa_nil))))))
        (pss_one (ps_ret (pv 0))))), ?_⟩
    refine ⟨by show 5 ≤ sizeLine; decide, fun p np => ?_⟩
    refine ⟨_, rfl, for_it walk_str (fun i σ' H' => ∃ u v : Option V, σ' = [some (.ref p), u, v] ∧ Same H H' ∧ H' p = some (.lst ((w0 ++ ([97, 98, 99, 100, 101, 102].take i).flatMap row2).map V.str))) ⟨none, none, rfl, Same.upd' np, upd_same⟩ (fun _ _ _ _ _ => True.intro) ?_ ?_⟩
    · rintro i x σ' H' H'' hi ⟨u, v, rfl, e, hp⟩ ⟨rfl, c, hc, rfl⟩
      rw [sixL] at hi hc
      refine ⟨_, rfl, .inl ⟨rfl, _, SqL.of hp⟩, ?_⟩
      refine ⟨_, rfl, fun D nD => lc_it walk_str (fun j H2 => Same H'' H2 ∧ H2 D = some (.lst ((([103, 104, 105, 106, 107, 108, 109, 110, 111, 112].take j).map (two c)).map V.str))) ⟨Same.upd' nD, upd_same⟩ (fun _ _ _ _ => True.intro) ?_ ?_⟩
      · rintro j y H2 H3 hj ⟨g1, g2⟩ ⟨rfl, d, hd, rfl⟩
        rw [tenL] at hj hd
        refine ⟨rfl, _, rfl, _, rfl, sg c, sg d, rfl, rfl, by rw [len1, len1]; decide, _, g2, small1000 (by simp; omega), ?_⟩
        refine ⟨Same.mut g1 nD, ?_⟩
        have hd' : [103, 104, 105, 106, 107, 108, 109, 110, 111, 112][j]? = some d := by simpa using hd
        rw [upd_same, List.take_succ, hd', two_eq]
        simp
      · rintro H2 ⟨g1, g2⟩
        rw [tenL] at g2
        have g2 : H2 D = some (.lst ((row2 c).map V.str)) := g2
        have hDp : D ≠ p := (ne_of_none hp nD).symm
        have hc' : [97, 98, 99, 100, 101, 102][i]? = some c := by simpa using hc
        refine ⟨_, _, _, _, rfl, rfl, g1 _ _ hp, g2, ?_, ?_⟩
        · show _ ≤ sizeLine
          refine Nat.le_of_lt (small1000 ?_)
          have hi' : i ≤ 6 := Nat.le_of_lt hi
          have : ∀ i ≤ 6, ((w0 ++ ([97, 98, 99, 100, 101, 102].take i).flatMap row2).map V.str).length ≤ 800 := by decide +kernel
          have h1 := this i hi'
          have h2 : ((row2 c).map V.str).length = 10 := by simp [row2]
          omega
        · refine ⟨_, _, rfl, Same.mut (e.trans g1) np, ?_⟩
          rw [upd_same, List.take_succ, hc']
          simp
    · rintro σ' H' ⟨u, v, rfl, e, hp⟩
      rw [sixL] at hp
      exact ⟨_, rfl, k p _ np e hp⟩
end
end Lm

namespace Lm
open PySem L2
def isW (x : Str) : Bool := decide (1 ≤ x.cps.size) && decide (x.cps.size ≤ 8) && x.cps.toList.all fun c => decide (97 ≤ c) && decide (c ≤ 122)
theorem allW_nodup : allW.Nodup := by decide +kernel
theorem allW_len : allW.length = 65 := by decide +kernel
theorem allW_word : ∀ x ∈ allW, isW x = true := by decide +kernel
/-- of the words so many, all unlike -/
structure Wds (ws : List Str) (n : Nat) : Prop where
  len : ws.length = n
  nd : ws.Nodup
  wd : ∀ x ∈ ws, isW x = true
theorem perm_erase {α : Type} : ∀ (l : List α) (i : Nat) (h : i < l.length), (l[i] :: l.eraseIdx i).Perm l
  | a :: r, 0, _ => .refl _
  | a :: r, i + 1, h => by
    have := perm_erase r i (by simpa using h)
    exact (List.Perm.swap _ _ _).trans (this.cons a)
theorem erase_map {α β : Type} (g : α → β) : ∀ (l : List α) (i : Nat), (l.map g).eraseIdx i = (l.eraseIdx i).map g
  | [], _ => rfl
  | _ :: _, 0 => rfl
  | a :: r, i + 1 => by
    show g a :: (r.map g).eraseIdx i = g a :: (r.eraseIdx i).map g
    rw [erase_map g r i]
theorem wds_of {F L : List Str} (h : (F ++ L).Perm allW) : Wds F F.length := by
  have nd := h.symm.nodup allW_nodup
  exact ⟨rfl, (List.nodup_append.mp nd).1, fun x hx => allW_word x (h.mem_iff.mp (List.mem_append_left _ hx))⟩
section
variable {P : Program} {w : World} {K : PySem.W.Frag} {mg : Str → Option Value} {base : Heap} {f : Addr} {fd : FuncData}
def spSomeWA : Sp := fun vs H Q _ => ∃ (st c : Addr) (m : Nat), vs = [.ref st, .int m] ∧ StAt H st c ∧ m ≤ 60 ∧ ∀ p ws H', H p = none → Wds ws m → (∀ x ∈ ws, x ∈ allW) → StAt H' st c → Kp st H H' → H' p = some (.lst (ws.map V.str)) → Q (.ref p) H'
def spSomeW : Sp := fun vs H Q _ => ∃ (st c : Addr) (m : Nat), vs = [.ref st, .int m] ∧ StAt H st c ∧ m ≤ 60 ∧ ∀ p ws H', H p = none → Wds ws m → StAt H' st c → Kp st H H' → H' p = some (.lst (ws.map V.str)) → Q (.ref p) H'
abbrev s_some_words : Stmt := top 30
theorem sc_some_words : FnScope ["_law_state", "_law_many", "_law_left", "_law_found", "_law_k"] ["_law_state", "_law_many"] (defScope s_some_words) := ⟨rfl, rfl, rfl, by decide +kernel, rfl, by decide +kernel, by decide +kernel⟩
theorem ok_some_wordsA {fT fW : Addr} {fdT fdW : FuncData} (F : Fun K "_law_some_words" "_law_some_words" s_some_words f fd) (T : Blt mg) (D_take : DefOk P w K mg base 2 "_law_take" fT fdT ["_law_state", "_law_many"] spTake)
    (D_all_words : DefOk P w K mg base 1 "_law_all_words" fW fdW [] spAllW) : FnOk P w K mg base CX0 3 f fd ["_law_state", "_law_many"] spSomeWA := by
  refine F.ok sc_some_words (fun vs H Q E h => ?_) (fun cdv A outer s H vs Q E hr h => ?_)
  · obtain ⟨st, c, m, rfl, _⟩ := h
    rfl
  · obtain ⟨st, c, m, rfl, S, hm, k⟩ := h
    refine ⟨_, (pss_cons (ps_par (i := 2) (j := 3) (by rfl) sc_some_words.nd rfl rfl (by decide) rfl rfl (pa_cons (pe_d0 D_all_words (hr.mono (by decide))) (pa_cons (pe_lst pa_nil) pa_nil)) (by rfl))
        (pss_cons (ps_for PassesOwn.never rfl (pi_range1 rfl T.b_range (pa_cons (pv 1) pa_nil)) (pg_name (i := 4) sc_some_words.nd rfl (by first | exact Or.inl rfl | exact Or.inr rfl)) (pss_one (ps_expr (pe_bm PySem.F.plainAttrs_list PySem.F.slot_list_append PySem.F.type_list_append mt_append (pv 3) (pa_cons (pe_bm PySem.F.plainAttrs_list PySem.F.slot_list_pop PySem.F.type_list_pop mt_popAt (pv 2) (pa_cons (pe_d D_take (hr.mono (by decide)) (pa_cons (pv 0) (pa_cons (pe_callB call_len_seq (by rfl) T.b_len PySem.boot_len (pa_cons (pv 2) pa_nil)) pa_nil))) pa_nil)) pa_nil)))))
        (pss_one (ps_ret (pv 3))))), ?_⟩
    refine ⟨rfl, fun l H1 nl e1 hl => ⟨by show 0 ≤ sizeLine; decide, fun fo nfo => ⟨_, _, rfl, ?_⟩⟩⟩
    have nfo' := e1.free nfo
    have hlf : l ≠ fo := ne_of_none hl nfo
    refine ⟨_, rfl, _, rfl, by omega, by omega, for_range (n := ((m : Int) - 0).toNat) (fun i σ' H' => ∃ (u : Option V) (F L : List Str), σ' = [some (.ref st), some (.int m), some (.ref l), some (.ref fo), u] ∧ F.length = i ∧ (F ++ L).Perm allW ∧ StAt H' st c ∧ Kp st H H' ∧ H' l = some (.lst (L.map V.str)) ∧ H' fo = some (.lst (F.map V.str)))
      ⟨none, [], allW, rfl, rfl, .refl _, (S.same e1).same (Same.upd' nfo), Kp.of (e1.trans (Same.upd' nfo)), by rw [upd_ne hlf]; exact hl, upd_same⟩ ?_ ?_⟩
    · rintro i σ' H' hi ⟨u, F, L, rfl, hF, hp, S', e, gl, gf⟩
      have hi : i < m := by omega
      have hlen : F.length + L.length = 65 := by
        have := hp.length_eq
        rw [List.length_append, allW_len] at this
        exact this
      obtain ⟨hls, hlc⟩ : l ≠ st ∧ l ≠ c := S.of_new nl
      obtain ⟨hfs, hfc⟩ : fo ≠ st ∧ fo ≠ c := S.of_new nfo'
      refine ⟨_, rfl, .inl ⟨rfl, _, SqL.of gf⟩, ?_⟩
      refine ⟨_, rfl, .inl ⟨rfl, _, SqL.of gl⟩, _, rfl, _, rfl, _, _, rfl, .inl (SqL.of gl), st, c, _, rfl, S', by simp; omega, by simp; omega, fun d H2 d0 d1 S2 e2 => ?_⟩
      have gl2 := e2 _ _ hls gl
      have gf2 := e2 _ _ hfs gf
      have hd : d.toNat < L.length := by simp at d1; omega
      refine ⟨l, _, d, d.toNat, _, rfl, rfl, gl2, by omega, by omega, PySem.seqIndex_of d0 (by simpa using d1), (by rw [List.getElem?_map, List.getElem?_eq_getElem hd]; rfl), ?_⟩
      refine ⟨_, _, _, rfl, rfl, by rw [upd_ne hlf.symm]; exact gf2, small1000 (by simp; omega), ?_⟩
      refine ⟨_, F ++ [L[d.toNat]], L.eraseIdx d.toNat, rfl, by simp [hF], ?_, (S2.mut hls hlc).mut hfs hfc, Kp.mut (Kp.mut (e.trans e2) nl) nfo', ?_, ?_⟩
      · refine List.Perm.trans ?_ hp
        rw [List.append_assoc]
        exact (perm_erase L d.toNat hd).append_left F
      · rw [upd_ne hlf, upd_same, erase_map]
      · rw [upd_same]
        simp
    · rintro σ' H' ⟨u, F, L, rfl, hF, hp, S', e, gl, gf⟩
      have hF : F.length = m := by omega
      exact ⟨_, rfl, k fo F H' nfo' (hF ▸ wds_of hp) (fun x hx => hp.mem_iff.mp (List.mem_append_left _ hx)) S' e gf⟩
theorem ok_some_words {fT fW : Addr} {fdT fdW : FuncData} (F : Fun K "_law_some_words" "_law_some_words" s_some_words f fd) (T : Blt mg) (D_take : DefOk P w K mg base 2 "_law_take" fT fdT ["_law_state", "_law_many"] spTake)
    (D_all_words : DefOk P w K mg base 1 "_law_all_words" fW fdW [] spAllW) : FnOk P w K mg base CX0 3 f fd ["_law_state", "_law_many"] spSomeW :=
  (ok_some_wordsA F T D_take D_all_words).imp fun vs H Q E ⟨st, c, m, h1, h2, h3, h4⟩ => ⟨st, c, m, h1, h2, h3, fun p ws H' a b _ d e g => h4 p ws H' a b d e g⟩
def spKept : Sp := fun vs H Q _ => ∃ (st c : Addr) (m : Nat), vs = [.ref st, .int m] ∧ StAt H st c ∧ m ≤ 60 ∧ ∀ p (S : Nat → Bool) H', H p = none → StAt H' st c → Kp st H H' → H' p = some (.lst (((List.range m).filter S).map fun i : Nat => V.int i)) → Q (.ref p) H'
end
end Lm

namespace Lm
open PySem L2
section
variable {P : Program} {w : World} {K : PySem.W.Frag} {mg : Str → Option Value} {base : Heap} {f : Addr} {fd : FuncData}
abbrev c_LETTERS : V := .str "abcdefghijklmnopqrstuvwxyz"
abbrev c_LONGEST_WORD : V := .int 8
/-- the module's constants -/
structure Cst (mg : Str → Option Value) (tL tW : Tok) : Prop where
  g_LETTERS : mg "LETTERS" = some (.str "abcdefghijklmnopqrstuvwxyz" tL)
  g_LONGEST_WORD : mg "LONGEST_WORD" = some (.int 8 tW)
def SeqAt (H : Hp) (a : Addr) (xs : List V) : Prop := H a = some (.lst xs) ∨ H a = some (.tup xs)
/-- is_number: of an int -/
def spIsNum : Sp := fun vs H Q _ => ∃ i : Int, vs = [.int i] ∧ Q (.bl true) H
def spUpTo : Sp := fun vs H Q _ => ∃ i n : Int, vs = [.int i, .int n] ∧ Q (.bl (decide (0 ≤ i ∧ i ≤ n))) H
def spIsRow : Sp := fun vs H Q _ => ∃ a xs, vs = [.ref a] ∧ SeqAt H a xs ∧ ∀ H', Same H H' → Q (.bl true) H'
abbrev s_is_row : Stmt := top 4
theorem sc_is_row : FnScope ["x"] ["x"] (defScope s_is_row) := ⟨rfl, rfl, rfl, by decide +kernel, rfl, by decide +kernel, by decide +kernel⟩
theorem ok_is_row (F : Fun K "is_row" "is_row" s_is_row f fd) (T : Blt mg) : FnOk P w K mg base CX0 1 f fd ["x"] spIsRow := by
  refine F.ok sc_is_row (fun vs H Q E h => ?_) (fun cdv A outer s H vs Q E hr h => ?_)
  · obtain ⟨a, xs, rfl, _⟩ := h
    rfl
  · obtain ⟨a, xs, rfl, hq, k⟩ := h
    refine ⟨_, (pss_one (ps_ret (pe_callB call_isiT (by rfl) T.b_isinstance (by decide +kernel) (pa_cons (pv 0) (pa_cons (pe_tup (pa_cons (pe_bltn (v := .ty "list") (u := .type "list") (by rfl) T.b_list (by decide +kernel) rfl) (pa_cons (pe_bltn (v := .ty "tuple") (u := .type "tuple") (by rfl) T.b_tuple (by decide +kernel) rfl) pa_nil))) pa_nil))))), ?_⟩
    refine ⟨_, rfl, by show 2 ≤ sizeLine; decide, fun p np => ?_⟩
    rcases hq with hq | hq
    · exact ⟨_, _, _, _, _, true, rfl, upd_same, .cons (.ty _) (.cons (.ty _) .nil), .base (.lst (by rw [upd_ne (ne_of_none hq np)]; exact hq)), kitAny_cons (b := true) (kit_ty (by decide +kernel)) (fun z => nomatch z) (fun _ => rfl), k _ (Same.upd' np)⟩
    · exact ⟨_, _, _, _, _, true, rfl, upd_same, .cons (.ty _) (.cons (.ty _) .nil), .base (.tup (by rw [upd_ne (ne_of_none hq np)]; exact hq)), kitAny_cons (b := false) (kit_ty (by decide +kernel)) (fun _ => kitAny_cons (b := true) (kit_ty (by decide +kernel)) (fun z => nomatch z) (fun _ => rfl)) (fun z => nomatch z), k _ (Same.upd' np)⟩
theorem isW_sign (c : Nat) : decide (c ∈ ("abcdefghijklmnopqrstuvwxyz" : Str).cps.toList) = (decide (97 ≤ c) && decide (c ≤ 122)) := by
  have e : ("abcdefghijklmnopqrstuvwxyz" : Str).cps.toList = List.range' 97 26 := by decide +kernel
  rw [e]
  simp only [List.mem_range'_1]
  by_cases h1 : 97 ≤ c <;> by_cases h2 : c ≤ 122 <;> simp [h1, h2] <;> omega
def spIsWord : Sp := fun vs H Q _ => ∃ x : Str, vs = [.str x] ∧ x.cps.size ≤ 1000 ∧ ∀ H', Same H H' → Q (.bl (isW x)) H'
abbrev s_is_word : Stmt := top 5
theorem sc_is_word : FnScope ["x", "sign"] ["x"] (defScope s_is_word) := ⟨rfl, rfl, rfl, by decide +kernel, rfl, by decide +kernel, by decide +kernel⟩
theorem ok_is_word (F : Fun K "is_word" "is_word" s_is_word f fd) (T : Blt mg) {tL tW : Tok} (T' : Cst mg tL tW) : FnOk P w K mg base CX0 1 f fd ["x"] spIsWord := by
  refine F.ok sc_is_word (fun vs H Q E h => ?_) (fun cdv A outer s H vs Q E hr h => ?_)
  · obtain ⟨x, rfl, _⟩ := h
    rfl
  · obtain ⟨x, rfl, hx, k⟩ := h
    refine ⟨_, (pss_cons (ps_if (pt_not (pt_val (pe_callB call_isi (by rfl) T.b_isinstance (by decide +kernel) (pa_cons (pv 0) (pa_cons (pe_bltn (v := .ty "str") (u := .type "str") (by rfl) T.b_str (by decide +kernel) rfl) pa_nil))))) (pss_one (ps_ret pe_bl)) pss_nil)
        (pss_one (ps_ret (pe_and (pe_chain op_le op_le pe_int (pe_callB call_len_str (by rfl) T.b_len PySem.boot_len (pa_cons (pv 0) pa_nil)) (pe_glob (v := c_LONGEST_WORD) rfl T'.g_LONGEST_WORD ⟨_, rfl⟩)) (pe_one (pe_callB (cr_all rfl) (by rfl) T.b_all (by decide +kernel) (by exact (pa_cons (pe_lc (own := [("sign", 1)]) (g := gName 1) (tt := tYes) (te := (tOp rInSign (tVar 1) (tC c_LETTERS))) rfl sc_is_word.nd (pi_str (pv 0)) (blkOk_by (own := [("sign", 1)]) (by kernel_rfl)) (fun _ _ _ _ _ => (pg_name (i := 1) sc_is_word.nd rfl (by first | exact Or.inl rfl | exact Or.inr rfl))) (fun _ _ _ _ _ => pts_nil) (fun _ _ _ _ _ => by exact (pe_cmpR op_in_sign (pv 1) (pe_glob (v := c_LETTERS) rfl T'.g_LETTERS ⟨_, rfl⟩) rfl))) pa_nil)))))))), ?_⟩
    refine ⟨_, rfl, _, _, _, _, true, rfl, .ty _, .base (.str x), kit_ty (by decide +kernel), true, rfl, ?_⟩
    have hx' : x.length ≤ sizeLine := Nat.le_of_lt (small1000 hx)
    have hl : x.length = x.cps.size := rfl
    refine ⟨_, rfl, _, rfl, hx', _, _, rfl, rfl, _, rfl, ite2 (fun h0 => ?_) (fun h0 => ?_)⟩
    · have h0 : 1 ≤ x.cps.size := by have := of_decide_eq_true h0; omega
      refine ⟨_, _, rfl, rfl, _, rfl, ite2 (fun h1 => ?_) (fun h1 => ?_)⟩
      · have h1 : x.cps.size ≤ 8 := by have := of_decide_eq_true h1; omega
        refine ⟨_, rfl, x, rfl, fun D nD => lc_it walk_str (fun j H' => Same H H' ∧ H' D = some (.lst (((x.cps.toList.take j).map fun c => decide (97 ≤ c) && decide (c ≤ 122)).map V.bl))) ⟨Same.upd' nD, upd_same⟩ (fun _ _ _ _ => True.intro) ?_ ?_⟩
        · rintro j y H' H'' hj ⟨e, hD⟩ ⟨rfl, c, hc, rfl⟩
          refine ⟨rfl, _, rfl, _, _, rfl, rfl, _, hD, small1000 (by simp; omega), Same.mut e nD, ?_⟩
          have hc' : x.cps.toList[j]? = some c := by simpa using hc
          rw [upd_same, List.take_succ, hc', isW_sign]
          simp
        · rintro H' ⟨e, hD⟩
          refine ⟨_, _, rfl, SqL.of hD, ?_⟩
          have e2 : (((x.cps.toList.take x.cps.size).map fun c => decide (97 ≤ c) && decide (c ≤ 122)).all id) = isW x := by
            unfold isW
            rw [show x.cps.size = x.cps.toList.length from by simp, List.take_length]
            simp [h0, h1]
          have q := k H' e
          rw [← e2] at q
          exact q
      · have h1 : ¬ x.cps.size ≤ 8 := fun z => h1 (decide_eq_true (by show (x.length : Int) ≤ 8; omega))
        have e2 : isW x = false := by unfold isW; simp [h1]
        have q := k H (Same.refl H)
        rw [e2] at q
        exact q
    · have h0 : ¬ 1 ≤ x.cps.size := fun z => h0 (decide_eq_true (by show (1 : Int) ≤ x.length; omega))
      have e2 : isW x = false := by unfold isW; simp [h0]
      have q := k H (Same.refl H)
      rw [e2] at q
      exact ⟨false, rfl, q⟩
end
end Lm

namespace Lm
open PySem L2
/-! ### a work as it stands in the heap -/
theorem n_nw : ¬ (("name" : Str) = "words") := by decide +kernel
theorem n_ne : ¬ (("name" : Str) = "ends") := by decide +kernel
theorem n_we : ¬ (("words" : Str) = "ends") := by decide +kernel
def wkF (nm : Str) (t d : Addr) : List (Str × V) := [("name", .str nm), ("words", .ref t), ("ends", .ref d)]
theorem wk_name (nm : Str) (t d : Addr) : (wkF nm t d).lookup ("name" : Str) = some (.str nm) := by simp [wkF, List.lookup]
theorem wk_words (nm : Str) (t d : Addr) : (wkF nm t d).lookup ("words" : Str) = some (.ref t) := by
  have e : (("words" : Str) == "name") = false := by decide +kernel
  simp [wkF, List.lookup, e]
theorem wk_ends (nm : Str) (t d : Addr) : (wkF nm t d).lookup ("ends" : Str) = some (.ref d) := by
  have e : (("ends" : Str) == "name") = false := by decide +kernel
  have e2 : (("ends" : Str) == "words") = false := by decide +kernel
  simp [wkF, List.lookup, e, e2]
theorem wk_no (nm : Str) (t d : Addr) {m : Str} (h1 : (m == "name") = false) (h2 : (m == "words") = false) (h3 : (m == "ends") = false) : (wkF nm t d).lookup m = none := by simp [wkF, List.lookup, h1, h2, h3]
theorem wk_put (nm : Str) (t d : Addr) : putF "ends" (.ref d) (putF "words" (.ref t) (putF "name" (.str nm) [])) = wkF nm t d := by
  simp [putF, wkF, n_nw, n_ne, n_we]
theorem wk_l1 (nm : Str) : (putF "name" (.str nm) []).length < 1000 := by simp [putF]
theorem wk_l2 (nm : Str) (t : Addr) : (putF "words" (.ref t) (putF "name" (.str nm) [])).length < 1000 := by simp [putF, n_nw]
/-- the cuts behind the words -/
def endsL : Nat → List Str → List (Key × V)
  | _, [] => []
  | n, x :: r => (Sum.inr x, V.int ((n : Int) + 1)) :: endsL (n + 1) r
theorem endsL_len : ∀ n ws, (endsL n ws).length = ws.length
  | _, [] => rfl
  | n, x :: r => by show (endsL (n + 1) r).length + 1 = r.length + 1; rw [endsL_len]
theorem endsL_app : ∀ n ws x, endsL n (ws ++ [x]) = endsL n ws ++ [(Sum.inr x, V.int ((n : Int) + (ws.length : Int) + 1))]
  | n, [], x => by simp [endsL]
  | n, y :: r, x => by
    show _ :: endsL (n + 1) (r ++ [x]) = _ :: (endsL (n + 1) r ++ _)
    rw [endsL_app (n + 1) r x]
    congr 4
    simp only [List.length_cons]
    congr 1
    omega
theorem endsL_no : ∀ n ws (x : Str), x ∉ ws → valV (endsL n ws) (Sum.inr x : Key) = none
  | _, [], _, _ => rfl
  | n, y :: r, x, h => by
    have h1 : ¬ ((Sum.inr y : Key) = Sum.inr x) := fun e => h (by rw [← Sum.inr.inj e]; exact List.mem_cons_self)
    unfold endsL
    rw [valV_neg h1]
    exact endsL_no (n + 1) r x fun z => h (List.mem_cons_of_mem _ z)
theorem endsL_at : ∀ n ws (i : Nat) (x : Str), ws.Nodup → ws[i]? = some x → valV (endsL n ws) (Sum.inr x : Key) = some (V.int ((n : Int) + (i : Int) + 1))
  | _, [], i, _, _, h => by simp at h
  | n, y :: r, 0, x, _, h => by
    have e : y = x := Option.some.inj h
    subst e
    unfold endsL
    rw [valV_pos rfl]
    simp
  | n, y :: r, i + 1, x, nd, h => by
    have hx : r[i]? = some x := h
    have ne : ¬ ((Sum.inr y : Key) = Sum.inr x) := fun e => (List.nodup_cons.mp nd).1 (by rw [Sum.inr.inj e]; exact List.mem_of_getElem? hx)
    unfold endsL
    rw [valV_neg ne, endsL_at (n + 1) r i x (List.nodup_cons.mp nd).2 hx]
    congr 2
    omega
/-- the work of the name nm and the words ws, at a -/
structure WkAt (C : Addr) (H : Hp) (a : Addr) (nm : Str) (ws : List Str) : Prop where
  ob : ∃ dx t d, H a = some (.ins C dx (wkF nm t d)) ∧ H t = some (.tup (ws.map V.str)) ∧ H d = some (.dK (endsL 0 ws))
theorem WkAt.same {C : Addr} {H H' : Hp} {a : Addr} {nm : Str} {ws : List Str} (k : WkAt C H a nm ws) (e : Same H H') : WkAt C H' a nm ws := by
  obtain ⟨⟨dx, t, d, h1, h2, h3⟩⟩ := k
  exact ⟨⟨dx, t, d, e _ _ h1, e _ _ h2, e _ _ h3⟩⟩
/-- what stands at st changes, a list -/
theorem WkAt.kp {C st : Addr} {H H' : Hp} {a : Addr} {nm : Str} {ws : List Str} {xs : List V} (k : WkAt C H a nm ws) (e : Kp st H H') (hs : H st = some (.lst xs)) : WkAt C H' a nm ws := by
  obtain ⟨⟨dx, t, d, h1, h2, h3⟩⟩ := k
  exact ⟨⟨dx, t, d, e _ _ (ne_of h1 hs (by intro z; cases z)) h1, e _ _ (ne_of h2 hs (by intro z; cases z)) h2, e _ _ (ne_of h3 hs (by intro z; cases z)) h3⟩⟩
/-- for i, x in enumerate(a), a list or a tuple that stands still -/
theorem for_enumA {K : PySem.W.Frag} {a : Addr} {xs : List V} {g : TG} {tb : TS} {D : Ends} {σ : St} {H : Hp} (hq : SeqAt H a xs) (Pv : Nat → St → Hp → Prop) (h0 : Pv 0 σ H) (hG : ∀ i σ' H', i ≤ xs.length → Pv i σ' H' → ∀ o, H a = some o → H' a = some o)
    (hs : ∀ i x σ H H', i < xs.length → Pv i σ H → YPair (fun i => some (.int (i : Nat))) (fun i => xs[i]?) i H x H' → g x σ H' fun σ2 H2 => tb { D with nx := Pv (i + 1), ct := Pv (i + 1), bk := D.nx } σ2 H2) (hd : ∀ σ H, Pv xs.length σ H → D.nx σ H) :
    ∃ a' xs', [V.ref a] = [V.ref a'] ∧ ((SqL K H a' xs' ∧ ∃ W : Nat → Nat → St → Hp → Prop, (∃ m, W 0 m σ H) ∧ ∀ i m σ H, W i m σ H →
      ((Ite K a').stop i H ∧ D.nx σ H) ∨ ((Ite K a').go i H ∧ ∃ N : St → Hp → Prop, (∀ σ' H', N σ' H' → ∃ m', m' < m ∧ W (i + 1) m' σ' H') ∧ ∀ x H', (Ite K a').yld i H x H' → g x σ H' fun σ2 H2 => tb { D with nx := N, ct := N, bk := D.nx } σ2 H2)) ∨
      (SqT K H a' xs' ∧ ∃ W : Nat → Nat → St → Hp → Prop, (∃ m, W 0 m σ H) ∧ ∀ i m σ H, W i m σ H →
      ((IteT K a').stop i H ∧ D.nx σ H) ∨ ((IteT K a').go i H ∧ ∃ N : St → Hp → Prop, (∀ σ' H', N σ' H' → ∃ m', m' < m ∧ W (i + 1) m' σ' H') ∧ ∀ x H', (IteT K a').yld i H x H' → g x σ H' fun σ2 H2 => tb { D with nx := N, ct := N, bk := D.nx } σ2 H2))) := by
  rcases hq with hq | hq
  · exact ⟨a, xs, rfl, .inl ⟨SqL.of hq, for_it walk_enum Pv h0 (fun i σ' H' hi p => SqL.of (hG i σ' H' hi p _ hq)) hs hd⟩⟩
  · exact ⟨a, xs, rfl, .inr ⟨SqT.of hq, for_it walk_enumT Pv h0 (fun i σ' H' hi p => SqT.of (hG i σ' H' hi p _ hq)) hs hd⟩⟩
section
variable {P : Program} {w : World} {K : PySem.W.Frag} {mg : Str → Option Value} {base : Heap} {f : Addr} {fd : FuncData}
/-- what the walk asks of the class Work -/
structure WkTxt (K : PySem.W.Frag) (C : Addr) : Prop where
  cl : Cls K C
  nN : NoAttr K C "name"
  nW : NoAttr K C "words"
  nE : NoAttr K C "ends"
def spWkInit (C : Addr) : Sp := fun vs H Q _ => ∃ (p dx a : Addr) (nm : Str) (ws : List Str), vs = [.ref p, .str nm, .ref a] ∧ H p = some (.ins C dx []) ∧ SeqAt H a (ws.map V.str) ∧ isW nm = true ∧ Wds ws ws.length ∧ 0 < ws.length ∧ ws.length ≤ 60 ∧
  ∀ H', WkAt C H' p nm ws → Kp p H H' → Q .non H'
theorem isW_size {x : Str} (h : isW x = true) : x.cps.size ≤ 1000 := by
  unfold isW at h
  simp at h
  omega
end
end Lm

namespace Lm
open PySem L2
theorem valV_mem {ws : List Str} (nd : ws.Nodup) (x : Str) : (valV (endsL 0 ws) (Sum.inr x : Key)).isSome = decide (x ∈ ws) := by
  by_cases h : x ∈ ws
  · obtain ⟨i, hi, e⟩ := List.mem_iff_getElem.mp h
    rw [endsL_at 0 ws i x nd (by rw [List.getElem?_eq_getElem hi, e]), decide_eq_true h]
    rfl
  · rw [endsL_no 0 ws x h, decide_eq_false h]
    rfl
section
variable {P : Program} {w : World} {K : PySem.W.Frag} {mg : Str → Option Value} {base : Heap} {f : Addr} {fd : FuncData}
def spWkLen (C : Addr) : Sp := fun vs H Q _ => ∃ (a : Addr) (nm : Str) (ws : List Str), vs = [.ref a] ∧ WkAt C H a nm ws ∧ Q (.int ws.length) H
def spWkIn (C : Addr) : Sp := fun vs H Q _ => ∃ (a : Addr) (x nm : Str) (ws : List Str), vs = [.ref a, .str x] ∧ WkAt C H a nm ws ∧ ws.Nodup ∧ Q (.bl (decide (x ∈ ws))) H
def spWkEnd (C : Addr) : Sp := fun vs H Q _ => ∃ (a : Addr) (x nm : Str) (ws : List Str) (i : Nat), vs = [.ref a, .str x] ∧ WkAt C H a nm ws ∧ ws.Nodup ∧ ws[i]? = some x ∧ Q (.int ((i : Int) + 1)) H
/-! ### == -/
theorem dpAll_strs {H : Hp} : ∀ ws : List Str, DpAll K H (ws.map V.str) (ws.map PyData.str)
  | [] => .nil
  | x :: r => .cons (.str x) (dpAll_strs r)
theorem isW_ok {x : Str} (h : isW x = true) : PyData.strOk x = true := by
  unfold isW at h
  simp only [Bool.and_eq_true, List.all_eq_true, decide_eq_true_eq] at h
  unfold PyData.strOk
  rw [Array.all_eq_true']
  intro c hc
  have := (h.2 c (by simpa using hc)).2
  simp
  omega
theorem depth_strs : ∀ ws : List Str, PyData.depthAll (ws.map PyData.str) = 0
  | [] => rfl
  | x :: r => by
    show max (PyData.depth (.str x)) (PyData.depthAll (r.map PyData.str)) = 0
    rw [depth_strs r]
    rfl
theorem lay_strs : ∀ ws : List Str, (∀ x ∈ ws, isW x = true) → PyData.canLayAll0 (ws.map PyData.str) = true
  | [], _ => rfl
  | x :: r, h => by
    show (PyData.strOk x && PyData.canLayAll0 (r.map PyData.str)) = true
    rw [isW_ok (h x List.mem_cons_self), lay_strs r fun y hy => h y (List.mem_cons_of_mem _ hy)]
    rfl
theorem shaped_strs (ws : List Str) (h : ∀ x ∈ ws, isW x = true) : PySem.SeqAt.shaped (.tuple (ws.map PyData.str)) = true := by
  show (PyData.canLayAll0 (ws.map PyData.str) && decide (PyData.depthAll (ws.map PyData.str) + 1 ≤ 64)) = true
  rw [lay_strs ws h, depth_strs]
  rfl
theorem eqvAll_strs : ∀ ws vs : List Str, PyData.eqvAll (ws.map PyData.str) (vs.map PyData.str) = decide (ws = vs)
  | [], [] => rfl
  | [], _ :: _ => rfl
  | _ :: _, [] => rfl
  | x :: r, y :: t => by
    show ((x == y) && PyData.eqvAll (r.map PyData.str) (t.map PyData.str)) = decide (x :: r = y :: t)
    rw [eqvAll_strs r t]
    by_cases h1 : x = y <;> by_cases h2 : r = t <;> simp [h1, h2]
theorem eqv_strs (ws vs : List Str) : PyData.eqv (.tuple (ws.map PyData.str)) (.tuple (vs.map PyData.str)) = decide (ws = vs) := eqvAll_strs ws vs
def spWkEq (C : Addr) : Sp := fun vs H Q _ => ∃ (a b : Addr) (nm nm' : Str) (ws ws' : List Str), vs = [.ref a, .ref b] ∧ WkAt C H a nm ws ∧ WkAt C H b nm' ws' ∧ (∀ x ∈ ws, isW x = true) ∧ (∀ x ∈ ws', isW x = true) ∧ Q (.bl (decide (nm = nm' ∧ ws = ws'))) H
structure WkIsi (K : PySem.W.Frag) (mg : Str → Option Value) (C : Addr) : Prop where
  g_Work : mg "Work" = some (.ref C)
  ha : PySem.W.findIn K (.ref C) "__class__" = some (some (.builtin "object.__class__"))
  hn : PySem.W.specialIn K (.builtin "object.__class__") "__get__" = some (some (.builtin "getset_descriptor.__get__"))
  htk : PySem.W.takesIn K (.builtin "object.__class__") = some true
  hm : PySem.W.mroIn K C (.type "object") = some true
  ko : PySem.W.kitOne K (.ref C) (.ref C) = some true
end
end Lm

namespace Lm
open PySem L2 Evl RZ
structure EdIsi (K : PySem.W.Frag) (mg : Str → Option Value) (C : Addr) : Prop where
  g_Edition : mg "Edition" = some (.ref C)
  ha : PySem.W.findIn K (.ref C) "__class__" = some (some (.builtin "object.__class__"))
  hn : PySem.W.specialIn K (.builtin "object.__class__") "__get__" = some (some (.builtin "getset_descriptor.__get__"))
  htk : PySem.W.takesIn K (.builtin "object.__class__") = some true
  hm : PySem.W.mroIn K C (.type "object") = some true
  ko : PySem.W.kitOne K (.ref C) (.ref C) = some true
/-! ### two things that are the same, of depth below d -/
def SameV (H : Hp) : Nat → V → V → Prop
  | 0 => fun _ _ => False
  | d + 1 => fun x y => (∃ i, x = .int i ∧ y = .int i) ∨ (∃ b, x = .bl b ∧ y = .bl b) ∨ (∃ s, x = .str s ∧ y = .str s) ∨ (x = .non ∧ y = .non) ∨
    (∃ a b xs ys, x = .ref a ∧ y = .ref b ∧ H a = some (.lst xs) ∧ H b = some (.lst ys) ∧ xs.length = ys.length ∧ xs.length ≤ 40000 ∧ ∀ (i : Nat) u v, xs[i]? = some u → ys[i]? = some v → SameV H d u v) ∨
    (∃ a b xs ys, x = .ref a ∧ y = .ref b ∧ H a = some (.tup xs) ∧ H b = some (.tup ys) ∧ xs.length = ys.length ∧ xs.length ≤ 40000 ∧ ∀ (i : Nat) u v, xs[i]? = some u → ys[i]? = some v → SameV H d u v)
theorem SameV.ex {H H' : Hp} (e : Ex H H') : ∀ {d : Nat} {x y : V}, SameV H d x y → SameV H' d x y
  | 0, _, _, h => h
  | d + 1, x, y, h => by
    rcases h with h | h | h | h | ⟨a, b, xs, ys, rfl, rfl, ha, hb, h1, h2, h3⟩ | ⟨a, b, xs, ys, rfl, rfl, ha, hb, h1, h2, h3⟩
    · exact .inl h
    · exact .inr (.inl h)
    · exact .inr (.inr (.inl h))
    · exact .inr (.inr (.inr (.inl h)))
    · exact .inr (.inr (.inr (.inr (.inl ⟨a, b, xs, ys, rfl, rfl, e _ _ ha, e _ _ hb, h1, h2, fun i u v q1 q2 => SameV.ex e (h3 i u v q1 q2)⟩))))
    · exact .inr (.inr (.inr (.inr (.inr ⟨a, b, xs, ys, rfl, rfl, e _ _ ha, e _ _ hb, h1, h2, fun i u v q1 q2 => SameV.ex e (h3 i u v q1 q2)⟩))))
theorem SameV.int {H : Hp} {d : Nat} (i : Int) : SameV H (d + 1) (.int i) (.int i) := .inl ⟨i, rfl, rfl⟩
theorem SameV.bl {H : Hp} {d : Nat} (i : Bool) : SameV H (d + 1) (.bl i) (.bl i) := .inr (.inl ⟨i, rfl, rfl⟩)
theorem SameV.str {H : Hp} {d : Nat} (i : Str) : SameV H (d + 1) (.str i) (.str i) := .inr (.inr (.inl ⟨i, rfl, rfl⟩))
theorem SameV.non {H : Hp} {d : Nat} : SameV H (d + 1) .non .non := .inr (.inr (.inr (.inl ⟨rfl, rfl⟩)))
theorem SameV.lst {H : Hp} {d : Nat} {a b : Addr} {xs ys : List V} (ha : H a = some (.lst xs)) (hb : H b = some (.lst ys)) (h1 : xs.length = ys.length) (h2 : xs.length ≤ 40000) (h3 : ∀ (i : Nat) u v, xs[i]? = some u → ys[i]? = some v → SameV H d u v) : SameV H (d + 1) (.ref a) (.ref b) :=
  .inr (.inr (.inr (.inr (.inl ⟨a, b, xs, ys, rfl, rfl, ha, hb, h1, h2, h3⟩))))
theorem SameV.tup {H : Hp} {d : Nat} {a b : Addr} {xs ys : List V} (ha : H a = some (.tup xs)) (hb : H b = some (.tup ys)) (h1 : xs.length = ys.length) (h2 : xs.length ≤ 40000) (h3 : ∀ (i : Nat) u v, xs[i]? = some u → ys[i]? = some v → SameV H d u v) : SameV H (d + 1) (.ref a) (.ref b) :=
  .inr (.inr (.inr (.inr (.inr ⟨a, b, xs, ys, rfl, rfl, ha, hb, h1, h2, h3⟩))))
/-- lists of flat things alike -/
theorem SameV.flat {H : Hp} {d : Nat} {a b : Addr} {xs : List V} (ha : H a = some (.lst xs)) (hb : H b = some (.lst xs)) (h2 : xs.length ≤ 40000) (h : ∀ x ∈ xs, SameV H (d + 1) x x) : SameV H (d + 2) (.ref a) (.ref b) :=
  .lst ha hb rfl h2 fun i u v q1 q2 => by
    rw [q1] at q2
    cases (Option.some.inj q2)
    exact h u (List.mem_of_getElem? q1)
theorem ok_none {P : Program} {w : World} {K : PySem.W.Frag} {mg : Str → Option Value} {base : Heap} {f : Addr} {fd : FuncData} {k : Nat} {ps : List Str} : FnOk P w K mg base CX0 k f fd ps (fun _ _ _ _ => False) :=
  ⟨fun _ _ _ _ h => h.elim, fun _ _ _ _ _ _ _ _ _ _ _ _ _ h => h.elim⟩
section
variable {K : PySem.W.Frag} {σ : L2.St} {H : Hp} {te : TE}
theorem ev_isi {x c : V} {t u : Value} {b : Bool} (h : Ev te σ H x) (hc : ClsV c u) (ht : ∀ H1, Ex H H1 → TyX K H1 x t) (hk : PySem.W.kitOne K t u = some b) : Ev (tCB (rIsi K) (tCons te (tCons (tC c) tNil))) σ H (.bl b) :=
  ev_cb (ea_cons h (ea_cons ev_c ea_nil)) fun H1 e Q q => ⟨x, c, t, u, b, rfl, hc, ht H1 e, hk, q H1 (Ex.refl _)⟩
theorem ev_isiT {x : V} {cs : List V} {t : Value} {us : List Value} {b : Bool} {ta : TA} (h : Ev te σ H x) (hcs : EvA ta σ H cs) (hl : cs.length ≤ 100000) (hc : Paired ClsV cs us) (ht : ∀ H1, Ex H H1 → TyX K H1 x t) (hk : PySem.W.kitAny K t us = some b) :
    Ev (tCB (rIsiT K) (tCons te (tCons (tTup ta) tNil))) σ H (.bl b) := fun H1 e Q q => h H1 e _ fun H2 e2 => hcs H2 (e.trans e2) _ fun H3 e3 => ⟨sz_of hl, fun p np =>
      ⟨x, p, cs, t, us, b, rfl, upd_same, hc, ht _ (((e.trans e2).trans e3).trans (Ex.new np)), hk, q _ ((e2.trans e3).trans (Ex.new np))⟩⟩
/-- over zip of two lists -/
theorem el_lcZ {a b : Addr} {xs ys : List V} {ta tb : TE} {i j : Nat} {vs : List Nat} (v : Nat → V) (ha : Ev ta σ H (.ref a)) (hb : Ev tb σ H (.ref b)) (hx : H a = some (.lst xs) ∧ H b = some (.lst ys) ∨ H a = some (.tup xs) ∧ H b = some (.tup ys)) (hl : xs.length = ys.length) (hz : xs.length ≤ 40000)
    (hw : ∀ x y, wipe (((wipe σ vs).set i (some x)).set j (some y)) vs = wipe σ vs) (he : ∀ (n : Nat) (x y : V) H1, Ex H H1 → xs[n]? = some x → ys[n]? = some y → Ev te (((wipe σ vs).set i (some x)).set j (some y)) H1 (v n)) :
    EvL (tLc (iZipA K (tCons ta (tCons tb tNil))) (gTup K 2 (gCons (gName i) (gCons (gName j) gNil))) tYes te vs) σ H ((List.range xs.length).map v) := fun H0 e Q q => ha H0 e _ fun H1 e1 => hb H1 (e.trans e1) _ fun H2 e2 => by
  have E := (e.trans e1).trans e2
  have hmin : xs.length = min xs.length ys.length := by omega
  have turn : ∀ (n : Nat) (z : V) (Hn Hn' : Hp) (D : Addr), n < xs.length → Cw H2 (fun _ => true) v D n Hn → YPair (fun i => xs[i]?) (fun i => ys[i]?) n Hn z Hn' →
      gTup K 2 (gCons (gName i) (gCons (gName j) gNil)) z (wipe σ vs) Hn' fun σ2 H2' => wipe σ2 vs = wipe σ vs ∧ tYes σ2 H2' fun b H3 => if b = true then te σ2 H3 fun y H4 => ∃ acc, H4 D = some (.lst acc) ∧ acc.length < sizeLine ∧ Cw H2 (fun _ => true) v D (n + 1) (upd H4 D (.lst (acc ++ [y]))) else Cw H2 (fun _ => true) v D (n + 1) H3 := by
    rintro n z Hn Hn' D hn p ⟨T', x, y, rfl, nT, rfl, hx1, hy1⟩
    refine ⟨T', _, rfl, SqT.of upd_same, rfl, _, _, rfl, _, _, rfl, rfl, hw x y, ?_⟩
    have p' : Cw H2 (fun _ => true) v D n (upd Hn T' (.tup [x, y])) := ⟨p.1, p.2.1.trans (Ex.new nT), by rw [upd_ne (ne_of_none p.2.2 nT)]; exact p.2.2⟩
    exact cw_turn (t := tYes) p' (by omega) (fun H1 _ _ q => q H1 (Ex.refl H1)) fun _ => he n x y H2 E hx1 hy1
  have fin : ∀ D H', Cw H2 (fun _ => true) v D xs.length H' → Q (.ref D) H' := fun D H' p => q D H' (fresh_back (e1.trans e2) p.1) ((e1.trans e2).trans p.2.1) (by
    rw [p.2.2]
    unfold given
    rw [List.filter_eq_self.mpr fun _ _ => rfl])
  refine ⟨a, b, xs, ys, rfl, ?_⟩
  rcases hx with ⟨h1, h2⟩ | ⟨h1, h2⟩
  · refine .inl ⟨sq_of (E _ _ h1), sq_of (E _ _ h2), fun D hD => lc_it (walk_zip hmin) (Cw H2 (fun _ => true) v D) ⟨hD, Ex.new hD, upd_same⟩ (fun n H' _ p => ⟨sq_of ((E.trans p.2.1) _ _ h1), sq_of ((E.trans p.2.1) _ _ h2)⟩) (fun n z Hn Hn' hn p y => turn n z Hn Hn' D hn p y) (fun H' p => fin D H' p)⟩
  · refine .inr ⟨st_of (E _ _ h1), st_of (E _ _ h2), fun D hD => lc_it (walk_zipT hmin) (Cw H2 (fun _ => true) v D) ⟨hD, Ex.new hD, upd_same⟩ (fun n H' _ p => ⟨st_of ((E.trans p.2.1) _ _ h1), st_of ((E.trans p.2.1) _ _ h2)⟩) (fun n z Hn Hn' hn p y => turn n z Hn Hn' D hn p y) (fun H' p => fin D H' p)⟩
theorem ev_lenL {p : Addr} {xs : List V} (ha : Ev te σ H (.ref p)) (h : H p = some (.lst xs)) : Ev (tCB (rLenS K) (tCons te tNil)) σ H (.int (xs.length : Int)) := ev_len ha (sq_of h)
theorem ev_lenT {p : Addr} {xs : List V} (ha : Ev te σ H (.ref p)) (h : H p = some (.tup xs)) : Ev (tCB (rLenS K) (tCons te tNil)) σ H (.int (xs.length : Int)) := ev_cb (ea_cons ha ea_nil) fun H1 e Q q => ⟨p, xs, rfl, .inr (st_of (e _ _ h)), q H1 (Ex.refl _)⟩
theorem ev_isB {x y : Bool} {ta tb : TE} (ha : Ev ta σ H (.bl x)) (hb : Ev tb σ H (.bl y)) : Ev (tOp rIsB ta tb) σ H (.bl (decide (x = y))) := ev_op ha hb fun H1 _ Q q => ⟨x, y, rfl, rfl, q H1 (Ex.refl _)⟩
theorem ev_all {bs : List Bool} (h : EvL te σ H (bs.map V.bl)) : Ev (tCB (rAll K) (tCons te tNil)) σ H (.bl (bs.all id)) := fun H1 e Q q =>
  h H1 e _ fun p H2 _ e2 hp => ⟨p, bs, rfl, sq_of hp, q H2 e2⟩
end
theorem kAny4 {K : PySem.W.Frag} {t : String} {c1 c2 c3 c4 : String} (h1 : kitB t c1 = some false) (h2 : kitB t c2 = some false) (h3 : kitB t c3 = some false) (h4 : kitB t c4 = some false) : PySem.W.kitAny K (.type t) [.type c1, .type c2, .type c3, .type c4] = some false :=
  kitAny_cons (kit_ty h1) (fun _ => kitAny_cons (kit_ty h2) (fun _ => kitAny_cons (kit_ty h3) (fun _ => kitAny_cons (kit_ty h4) (fun _ => rfl) (fun z => nomatch z)) (fun z => nomatch z)) (fun z => nomatch z)) (fun z => nomatch z)
theorem kAny2 {K : PySem.W.Frag} {t : String} {c1 c2 : String} (h1 : kitB t c1 = some false) (h2 : kitB t c2 = some false) : PySem.W.kitAny K (.type t) [.type c1, .type c2] = some false :=
  kitAny_cons (kit_ty h1) (fun _ => kitAny_cons (kit_ty h2) (fun _ => rfl) (fun z => nomatch z)) (fun z => nomatch z)
theorem kAnyL {K : PySem.W.Frag} : PySem.W.kitAny K (.type "list") [.type "list", .type "tuple"] = some true := kitAny_cons (b := true) (kit_ty (by decide +kernel)) (fun z => nomatch z) (fun _ => rfl)
theorem kAnyT {K : PySem.W.Frag} : PySem.W.kitAny K (.type "tuple") [.type "list", .type "tuple"] = some true := kitAny_cons (b := false) (kit_ty (by decide +kernel)) (fun _ => kitAny_cons (b := true) (kit_ty (by decide +kernel)) (fun z => nomatch z) (fun _ => rfl)) (fun z => nomatch z)
theorem pairT2 {c1 c2 : String} : Paired ClsV [V.ty c1, V.ty c2] [Value.type c1, Value.type c2] := .cons (.ty _) (.cons (.ty _) .nil)
theorem pairT4 {c1 c2 c3 c4 : String} : Paired ClsV [V.ty c1, V.ty c2, V.ty c3, V.ty c4] [Value.type c1, Value.type c2, Value.type c3, Value.type c4] := .cons (.ty _) (.cons (.ty _) (.cons (.ty _) (.cons (.ty _) .nil)))
section
variable {P : Program} {w : World} {K : PySem.W.Frag} {mg : Str → Option Value} {base : Heap} {f : Addr} {fd : FuncData}
def spSame (d : Nat) : Sp := fun vs H Q _ => ∃ x y, vs = [x, y] ∧ SameV H d x y ∧ ∀ H', Same H H' → Q (.bl true) H'
abbrev s_same : Stmt := top 28
theorem sc_same : FnScope ["_law_found", "_law_due_here", "_law_a", "_law_b"] ["_law_found", "_law_due_here"] (defScope s_same) := ⟨rfl, rfl, rfl, by decide +kernel, rfl, by decide +kernel, by decide +kernel⟩
theorem ok_same {d : Nat} (F : Fun K "_law_same" "_law_same" s_same f fd) (T : Blt mg) (D_same : DefOk P w K mg base d "_law_same" f fd ["_law_found", "_law_due_here"] (spSame d)) : FnOk P w K mg base CX0 (d + 1) f fd ["_law_found", "_law_due_here"] (spSame (d + 1)) := by
  refine F.ok sc_same (fun vs H Q E h => ?_) (fun cdv A outer s H vs Q E hr h => ?_)
  · obtain ⟨x, y, rfl, _⟩ := h
    rfl
  · obtain ⟨x, y, rfl, hxy, k⟩ := h
    have D_room : Room d _ := hr
    refine ⟨_, (pss_cons (ps_if (pt_val (pe_callB call_isiT (by rfl) T.b_isinstance (by decide +kernel) (pa_cons (pv 1) (pa_cons (pe_tup (pa_cons (pe_bltn (v := .ty "list") (u := .type "list") (by rfl) T.b_list (by decide +kernel) rfl) (pa_cons (pe_bltn (v := .ty "tuple") (u := .type "tuple") (by rfl) T.b_tuple (by decide +kernel) rfl) pa_nil))) pa_nil)))) (pss_cons (ps_if (PW.pt (pw_or (pt_cmpR op_ne (pe_callB call_isi (by rfl) T.b_isinstance (by decide +kernel) (pa_cons (pv 0) (pa_cons (pe_bltn (v := .ty "list") (u := .type "list") (by rfl) T.b_list (by decide +kernel) rfl) pa_nil))) (pe_callB call_isi (by rfl) T.b_isinstance (by decide +kernel) (pa_cons (pv 1) (pa_cons (pe_bltn (v := .ty "list") (u := .type "list") (by rfl) T.b_list (by decide +kernel) rfl) pa_nil))) (nomark _)) (pw_or1 (pt_cmpR op_ne (pe_callB call_isi (by rfl) T.b_isinstance (by decide +kernel) (pa_cons (pv 0) (pa_cons (pe_bltn (v := .ty "tuple") (u := .type "tuple") (by rfl) T.b_tuple (by decide +kernel) rfl) pa_nil))) (pe_callB call_isi (by rfl) T.b_isinstance (by decide +kernel) (pa_cons (pv 1) (pa_cons (pe_bltn (v := .ty "tuple") (u := .type "tuple") (by rfl) T.b_tuple (by decide +kernel) rfl) pa_nil))) (nomark _))))) (pss_one (ps_ret pe_bl)) pss_nil)
        (pss_one (ps_ret (pe_and (pe_cmpR op_eq (pe_callB call_len_seq (by rfl) T.b_len PySem.boot_len (pa_cons (pv 0) pa_nil)) (pe_callB call_len_seq (by rfl) T.b_len PySem.boot_len (pa_cons (pv 1) pa_nil)) (nomark _)) (pe_one (pe_callB (cr_all rfl) (by rfl) T.b_all (by decide +kernel) (by exact (pa_cons (pe_lc (own := [("_law_a", 2), ("_law_b", 3)]) (g := gTup K 2 (gCons (gName 2) (gCons (gName 3) gNil))) (tt := tYes) (te := (tCall (spSame d) [] E0 (tCons (tVar 2) (tCons (tVar 3) tNil)))) rfl sc_same.nd (pi_zipA rfl T.b_zip (pa_cons (pv 0) (pa_cons (pv 1) pa_nil))) (blkOk_by (own := [("_law_a", 2), ("_law_b", 3)]) (by kernel_rfl)) (fun _ _ _ _ _ => (pg_tup rfl (pgs_cons (pg_name (i := 2) sc_same.nd rfl (by first | exact Or.inl rfl | exact Or.inr rfl)) (pgs_cons (pg_name (i := 3) sc_same.nd rfl (by first | exact Or.inl rfl | exact Or.inr rfl)) pgs_nil)))) (fun _ _ _ _ _ => pts_nil) (fun _ _ _ _ _ => by exact (pe_d D_same D_room (pa_cons (pv 2) (pa_cons (pv 3) pa_nil))))) pa_nil)))))))) pss_nil)
        (pss_cons (ps_if (pt_val (pe_callB call_isi (by rfl) T.b_isinstance (by decide +kernel) (pa_cons (pv 1) (pa_cons (pe_bltn (v := .ty "int") (u := .type "int") (by rfl) T.b_int (by decide +kernel) rfl) pa_nil)))) (pss_one (ps_ret (pe_and (pe_callB call_isi (by rfl) T.b_isinstance (by decide +kernel) (pa_cons (pv 0) (pa_cons (pe_bltn (v := .ty "int") (u := .type "int") (by rfl) T.b_int (by decide +kernel) rfl) pa_nil))) (pe_and (pe_cmpR op_eq (pe_callB call_isi (by rfl) T.b_isinstance (by decide +kernel) (pa_cons (pv 0) (pa_cons (pe_bltn (v := .ty "bool") (u := .type "bool") (by rfl) T.b_bool (by decide +kernel) rfl) pa_nil))) (pe_callB call_isi (by rfl) T.b_isinstance (by decide +kernel) (pa_cons (pv 1) (pa_cons (pe_bltn (v := .ty "bool") (u := .type "bool") (by rfl) T.b_bool (by decide +kernel) rfl) pa_nil))) (nomark _)) (pe_one (pe_cmpR op_eq (pv 0) (pv 1) (nomark _))))))) pss_nil)
        (pss_one (ps_ret (pe_and (pe_cmpR op_isBl (pe_callB call_isiT (by rfl) T.b_isinstance (by decide +kernel) (pa_cons (pv 0) (pa_cons (pe_tup (pa_cons (pe_bltn (v := .ty "bool") (u := .type "bool") (by rfl) T.b_bool (by decide +kernel) rfl) (pa_cons (pe_bltn (v := .ty "int") (u := .type "int") (by rfl) T.b_int (by decide +kernel) rfl) (pa_cons (pe_bltn (v := .ty "list") (u := .type "list") (by rfl) T.b_list (by decide +kernel) rfl) (pa_cons (pe_bltn (v := .ty "tuple") (u := .type "tuple") (by rfl) T.b_tuple (by decide +kernel) rfl) pa_nil))))) pa_nil))) pe_bl (nomark _)) (pe_one (pe_cmpR op_eq (pv 0) (pv 1) (nomark _)))))))), ?_⟩
    have two : ∀ x : V, EvA (tCons (tC (.ty "list")) (tCons (tC (.ty "tuple")) tNil)) [some x, some y, none, none] H [.ty "list", .ty "tuple"] := fun _ => ea_cons ev_c (ea_cons ev_c ea_nil)
    rcases hxy with ⟨i, rfl, rfl⟩ | ⟨i, rfl, rfl⟩ | ⟨i, rfl, rfl⟩ | ⟨rfl, rfl⟩ | ⟨a, b, xs, ys, rfl, rfl, ha, hb, h1, h2, h3⟩ | ⟨a, b, xs, ys, rfl, rfl, ha, hb, h1, h2, h3⟩
    · refine q_when (et_B (ev_isiT (ev_var rfl) (ea_cons ev_c (ea_cons ev_c ea_nil)) (by decide) pairT2 (fun _ _ => .base (.int i)) (kAny2 (by decide +kernel) (by decide +kernel)))) (fun z => nomatch z) fun _ H1 e1 => ?_
      refine q_when (et_B (ev_isi (b := true) (ev_var rfl) (.ty _) (fun _ _ => .base (.int i)) (kit_ty (by decide +kernel)))) (fun _ H2 e2 => ?_) (fun z => nomatch z)
      refine s_ret (ev_is (ev_andV (ev_isi (b := true) (ev_var rfl) (.ty _) (fun _ _ => .base (.int i)) (kit_ty (by decide +kernel))) fun _ => ev_andV (ev_op (ev_isi (b := false) (ev_var rfl) (.ty _) (fun _ _ => .base (.int i)) (kit_ty (by decide +kernel))) (ev_isi (b := false) (ev_var rfl) (.ty _) (fun _ _ => .base (.int i)) (kit_ty (by decide +kernel))) (rv_eq rfl)) fun _ => ev_op (ev_var rfl) (ev_var rfl) (rv_eq rfl)) ?_) fun H3 e3 => k H3 (Ex.trans e1 (Ex.trans e2 e3))
      simp
    · refine q_when (et_B (ev_isiT (ev_var rfl) (ea_cons ev_c (ea_cons ev_c ea_nil)) (by decide) pairT2 (fun _ _ => .base (.bl i)) (kAny2 (by decide +kernel) (by decide +kernel)))) (fun z => nomatch z) fun _ H1 e1 => ?_
      refine q_when (et_B (ev_isi (b := true) (ev_var rfl) (.ty _) (fun _ _ => .base (.bl i)) (kit_ty (by decide +kernel)))) (fun _ H2 e2 => ?_) (fun z => nomatch z)
      refine s_ret (ev_is (ev_andV (ev_isi (b := true) (ev_var rfl) (.ty _) (fun _ _ => .base (.bl i)) (kit_ty (by decide +kernel))) fun _ => ev_andV (ev_op (ev_isi (b := true) (ev_var rfl) (.ty _) (fun _ _ => .base (.bl i)) (kit_ty (by decide +kernel))) (ev_isi (b := true) (ev_var rfl) (.ty _) (fun _ _ => .base (.bl i)) (kit_ty (by decide +kernel))) (rv_eq rfl)) fun _ => ev_op (ev_var rfl) (ev_var rfl) (rv_eq rfl)) ?_) fun H3 e3 => k H3 (Ex.trans e1 (Ex.trans e2 e3))
      simp
    · refine q_when (et_B (ev_isiT (ev_var rfl) (ea_cons ev_c (ea_cons ev_c ea_nil)) (by decide) pairT2 (fun _ _ => .base (.str i)) (kAny2 (by decide +kernel) (by decide +kernel)))) (fun z => nomatch z) fun _ H1 e1 => ?_
      refine q_when (et_B (ev_isi (b := false) (ev_var rfl) (.ty _) (fun _ _ => .base (.str i)) (kit_ty (by decide +kernel)))) (fun z => nomatch z) (fun _ H2 e2 => ?_)
      refine s_ret (ev_is (ev_andV (ev_isB (ev_isiT (ev_var rfl) (ea_cons ev_c (ea_cons ev_c (ea_cons ev_c (ea_cons ev_c ea_nil)))) (by decide) pairT4 (fun _ _ => .base (.str i)) (kAny4 (by decide +kernel) (by decide +kernel) (by decide +kernel) (by decide +kernel))) ev_c) fun _ => ev_op (ev_var rfl) (ev_var rfl) (rv_eq rfl)) ?_) fun H3 e3 => k H3 (Ex.trans e1 (Ex.trans e2 e3))
      simp
    · refine q_when (et_B (ev_isiT (ev_var rfl) (ea_cons ev_c (ea_cons ev_c ea_nil)) (by decide) pairT2 (fun _ _ => .base .non) (kAny2 (by decide +kernel) (by decide +kernel)))) (fun z => nomatch z) fun _ H1 e1 => ?_
      refine q_when (et_B (ev_isi (b := false) (ev_var rfl) (.ty _) (fun _ _ => .base .non) (kit_ty (by decide +kernel)))) (fun z => nomatch z) (fun _ H2 e2 => ?_)
      refine s_ret (ev_is (ev_andV (ev_isB (ev_isiT (ev_var rfl) (ea_cons ev_c (ea_cons ev_c (ea_cons ev_c (ea_cons ev_c ea_nil)))) (by decide) pairT4 (fun _ _ => .base .non) (kAny4 (by decide +kernel) (by decide +kernel) (by decide +kernel) (by decide +kernel))) ev_c) fun _ => ev_op (ev_var rfl) (ev_var rfl) (rv_eq rfl)) ?_) fun H3 e3 => k H3 (Ex.trans e1 (Ex.trans e2 e3))
      simp
    · refine q_when (et_B (ev_isiT (ev_var rfl) (ea_cons ev_c (ea_cons ev_c ea_nil)) (by decide) pairT2 (fun H1 e => .base (.lst (e _ _ hb))) kAnyL)) (fun _ H1 e1 => ?_) (fun z => nomatch z)
      have ha1 := e1 _ _ ha
      have hb1 := e1 _ _ hb
      refine q_when (b := false) (et_is (et_or (et_test (ev_op (ev_isi (b := true) (ev_var rfl) (.ty _) (fun _ e => .base (.lst (e _ _ ha1))) (kit_ty (by decide +kernel))) (ev_isi (b := true) (ev_var rfl) (.ty _) (fun _ e => .base (.lst (e _ _ hb1))) (kit_ty (by decide +kernel))) (rv_ne rfl))) fun _ => et_test (ev_op (ev_isi (b := false) (ev_var rfl) (.ty _) (fun _ e => .base (.lst (e _ _ ha1))) (kit_ty (by decide +kernel))) (ev_isi (b := false) (ev_var rfl) (.ty _) (fun _ e => .base (.lst (e _ _ hb1))) (kit_ty (by decide +kernel))) (rv_ne rfl))) (by simp)) (fun z => nomatch z) fun _ H2 e2 => ?_
      have ha2 := e2 _ _ ha1
      have hb2 := e2 _ _ hb1
      have lc : EvL (tLc (iZipA K (tCons (tVar 0) (tCons (tVar 1) tNil))) (gTup K 2 (gCons (gName 2) (gCons (gName 3) gNil))) tYes (tCall (spSame d) [] E0 (tCons (tVar 2) (tCons (tVar 3) tNil))) [2, 3]) [some (.ref a), some (.ref b), none, none] H2 ((List.range xs.length).map fun _ => V.bl true) :=
        el_lcZ (fun _ => V.bl true) (ev_var rfl) (ev_var rfl) (.inl ⟨ha2, hb2⟩) h1 h2 (fun _ _ => rfl) fun n x y H3 e3 hx hy => ev_call (ea_cons (ev_var rfl) (ea_cons (ev_var rfl) ea_nil)) fun H4 e4 Q q E => ⟨x, y, rfl, (h3 n x y hx hy).ex (Ex.trans e1 (Ex.trans e2 (Ex.trans e3 e4))), fun H5 s5 => q H5 s5⟩
      have hall := ev_all (K := K) (bs := (List.range xs.length).map fun _ => true) (by rw [List.map_map]; exact lc)
      refine s_ret (ev_is (ev_andV (ev_op (ev_lenL (ev_var rfl) ha2) (ev_lenL (ev_var rfl) hb2) (rv_eq rfl)) fun _ => hall) ?_) fun H3 e3 => k H3 (Ex.trans e1 (Ex.trans e2 e3))
      rw [h1]
      simp
    · refine q_when (et_B (ev_isiT (ev_var rfl) (ea_cons ev_c (ea_cons ev_c ea_nil)) (by decide) pairT2 (fun H1 e => .base (.tup (e _ _ hb))) kAnyT)) (fun _ H1 e1 => ?_) (fun z => nomatch z)
      have ha1 := e1 _ _ ha
      have hb1 := e1 _ _ hb
      refine q_when (b := false) (et_is (et_or (et_test (ev_op (ev_isi (b := false) (ev_var rfl) (.ty _) (fun _ e => .base (.tup (e _ _ ha1))) (kit_ty (by decide +kernel))) (ev_isi (b := false) (ev_var rfl) (.ty _) (fun _ e => .base (.tup (e _ _ hb1))) (kit_ty (by decide +kernel))) (rv_ne rfl))) fun _ => et_test (ev_op (ev_isi (b := true) (ev_var rfl) (.ty _) (fun _ e => .base (.tup (e _ _ ha1))) (kit_ty (by decide +kernel))) (ev_isi (b := true) (ev_var rfl) (.ty _) (fun _ e => .base (.tup (e _ _ hb1))) (kit_ty (by decide +kernel))) (rv_ne rfl))) (by simp)) (fun z => nomatch z) fun _ H2 e2 => ?_
      have ha2 := e2 _ _ ha1
      have hb2 := e2 _ _ hb1
      have lc : EvL (tLc (iZipA K (tCons (tVar 0) (tCons (tVar 1) tNil))) (gTup K 2 (gCons (gName 2) (gCons (gName 3) gNil))) tYes (tCall (spSame d) [] E0 (tCons (tVar 2) (tCons (tVar 3) tNil))) [2, 3]) [some (.ref a), some (.ref b), none, none] H2 ((List.range xs.length).map fun _ => V.bl true) :=
        el_lcZ (fun _ => V.bl true) (ev_var rfl) (ev_var rfl) (.inr ⟨ha2, hb2⟩) h1 h2 (fun _ _ => rfl) fun n x y H3 e3 hx hy => ev_call (ea_cons (ev_var rfl) (ea_cons (ev_var rfl) ea_nil)) fun H4 e4 Q q E => ⟨x, y, rfl, (h3 n x y hx hy).ex (Ex.trans e1 (Ex.trans e2 (Ex.trans e3 e4))), fun H5 s5 => q H5 s5⟩
      have hall := ev_all (K := K) (bs := (List.range xs.length).map fun _ => true) (by rw [List.map_map]; exact lc)
      refine s_ret (ev_is (ev_andV (ev_op (ev_lenT (ev_var rfl) ha2) (ev_lenT (ev_var rfl) hb2) (rv_eq rfl)) fun _ => hall) ?_) fun H3 e3 => k H3 (Ex.trans e1 (Ex.trans e2 e3))
      rw [h1]
      simp
end
end Lm

namespace Lm
open PySem L2 Evl RZ
/-! ### things of lists and tuples, told by their shape -/
inductive Sh where
  | v (u : V)
  | l (ss : List Sh)
  | t (ss : List Sh)
/-- flat things -/
def flt (u : V) : Prop := (∃ i, u = .int i) ∨ (∃ b, u = .bl b) ∨ (∃ s, u = .str s) ∨ u = .non
/-- at x stands a thing of the shape s, of depth below d, of objects of B -/
def RepB (H : Hp) (B : Addr → Prop) : Nat → V → Sh → Prop
  | 0 => fun _ _ => False
  | d + 1 => fun x s => match s with
    | .v u => x = u ∧ flt u
    | .l ss => ∃ a xs, x = .ref a ∧ B a ∧ H a = some (.lst xs) ∧ xs.length = ss.length ∧ xs.length ≤ 40000 ∧ ∀ (i : Nat) y s', xs[i]? = some y → ss[i]? = some s' → RepB H B d y s'
    | .t ss => ∃ a xs, x = .ref a ∧ B a ∧ H a = some (.tup xs) ∧ xs.length = ss.length ∧ xs.length ≤ 40000 ∧ ∀ (i : Nat) y s', xs[i]? = some y → ss[i]? = some s' → RepB H B d y s'
abbrev Rep (H : Hp) : Nat → V → Sh → Prop := RepB H fun _ => True
theorem RepB.mono {H H' : Hp} {B B' : Addr → Prop} (e : ∀ a o, B a → H a = some o → (∀ ps, o ≠ .tbl ps) → B' a ∧ H' a = some o) : ∀ {d : Nat} {x : V} {s : Sh}, RepB H B d x s → RepB H' B' d x s
  | 0, _, _, h => h
  | d + 1, x, .v u, h => h
  | d + 1, x, .l ss, ⟨a, xs, h1, hb, h2, h3, h4, h5⟩ => let ⟨q1, q2⟩ := e a _ hb h2 (fun _ z => by cases z); ⟨a, xs, h1, q1, q2, h3, h4, fun i y s' q1 q2 => RepB.mono e (h5 i y s' q1 q2)⟩
  | d + 1, x, .t ss, ⟨a, xs, h1, hb, h2, h3, h4, h5⟩ => let ⟨q1, q2⟩ := e a _ hb h2 (fun _ z => by cases z); ⟨a, xs, h1, q1, q2, h3, h4, fun i y s' q1 q2 => RepB.mono e (h5 i y s' q1 q2)⟩
theorem RepB.ex {H H' : Hp} {B : Addr → Prop} (e : Ex H H') {d : Nat} {x : V} {s : Sh} (h : RepB H B d x s) : RepB H' B d x s := h.mono fun a o b q _ => ⟨b, e _ _ q⟩
theorem Rep.extn {H H' : Hp} (e : LamX.ExtN H H') {d : Nat} {x : V} {s : Sh} (h : Rep H d x s) : Rep H' d x s := RepB.mono (fun a o b q n => ⟨b, e _ _ q n⟩) h
theorem RepB.rep {H : Hp} {B : Addr → Prop} {d : Nat} {x : V} {s : Sh} (h : RepB H B d x s) : Rep H d x s := h.mono fun a o b q _ => ⟨trivial, q⟩
theorem RepB.imp {H : Hp} {B B' : Addr → Prop} (e : ∀ a, B a → H a ≠ none → B' a) {d : Nat} {x : V} {s : Sh} (h : RepB H B d x s) : RepB H B' d x s := h.mono fun a o b q _ => ⟨e a b (by rw [q]; simp), q⟩
theorem Rep.on {H : Hp} {d : Nat} {x : V} {s : Sh} (h : Rep H d x s) : RepB H (fun a => H a ≠ none) d x s := RepB.imp (fun a _ q => q) h
theorem RepB.up {H : Hp} {B : Addr → Prop} : ∀ {d : Nat} {x : V} {s : Sh}, RepB H B d x s → RepB H B (d + 1) x s
  | 0, _, _, h => h.elim
  | d + 1, x, .v u, h => h
  | d + 1, x, .l ss, ⟨a, xs, h1, hb, h2, h3, h4, h5⟩ => ⟨a, xs, h1, hb, h2, h3, h4, fun i y s' q1 q2 => RepB.up (h5 i y s' q1 q2)⟩
  | d + 1, x, .t ss, ⟨a, xs, h1, hb, h2, h3, h4, h5⟩ => ⟨a, xs, h1, hb, h2, h3, h4, fun i y s' q1 q2 => RepB.up (h5 i y s' q1 q2)⟩
theorem flt.same {H : Hp} {d : Nat} {u : V} (h : flt u) : SameV H (d + 1) u u := by
  rcases h with ⟨i, rfl⟩ | ⟨i, rfl⟩ | ⟨i, rfl⟩ | rfl
  · exact .int i
  · exact .bl i
  · exact .str i
  · exact .non
theorem Rep.same {H : Hp} : ∀ {d : Nat} {x y : V} {s : Sh}, Rep H d x s → Rep H d y s → SameV H d x y
  | 0, _, _, _, h, _ => h.elim
  | d + 1, x, y, .v u, ⟨h1, h2⟩, ⟨g1, _⟩ => by
    subst h1 g1
    exact h2.same
  | d + 1, x, y, .l ss, ⟨a, xs, h1, _, h2, h3, h4, h5⟩, ⟨b, ys, g1, _, g2, g3, g4, g5⟩ => by
    subst h1 g1
    exact .lst h2 g2 (h3.trans g3.symm) h4 fun i u v q1 q2 => by
      have hi : i < ss.length := by rw [← h3]; exact (List.getElem?_eq_some_iff.mp q1).1
      exact Rep.same (h5 i u _ q1 (List.getElem?_eq_getElem hi)) (g5 i v _ q2 (List.getElem?_eq_getElem hi))
  | d + 1, x, y, .t ss, ⟨a, xs, h1, _, h2, h3, h4, h5⟩, ⟨b, ys, g1, _, g2, g3, g4, g5⟩ => by
    subst h1 g1
    exact .tup h2 g2 (h3.trans g3.symm) h4 fun i u v q1 q2 => by
      have hi : i < ss.length := by rw [← h3]; exact (List.getElem?_eq_some_iff.mp q1).1
      exact Rep.same (h5 i u _ q1 (List.getElem?_eq_getElem hi)) (g5 i v _ q2 (List.getElem?_eq_getElem hi))
theorem rep_flat {H : Hp} {B : Addr → Prop} {d : Nat} {a : Addr} {xs : List V} (hb : B a) (h : H a = some (.lst xs)) (hl : xs.length ≤ 40000) (hf : ∀ x ∈ xs, flt x) : RepB H B (d + 2) (.ref a) (.l (xs.map .v)) :=
  ⟨a, xs, rfl, hb, h, by simp, hl, fun i y s' q1 q2 => by
    rw [List.getElem?_map, q1] at q2
    cases (Option.some.inj q2)
    exact ⟨rfl, hf y (List.mem_of_getElem? q1)⟩⟩
theorem rep_flatT {H : Hp} {B : Addr → Prop} {d : Nat} {a : Addr} {xs : List V} (hb : B a) (h : H a = some (.tup xs)) (hl : xs.length ≤ 40000) (hf : ∀ x ∈ xs, flt x) : RepB H B (d + 2) (.ref a) (.t (xs.map .v)) :=
  ⟨a, xs, rfl, hb, h, by simp, hl, fun i y s' q1 q2 => by
    rw [List.getElem?_map, q1] at q2
    cases (Option.some.inj q2)
    exact ⟨rfl, hf y (List.mem_of_getElem? q1)⟩⟩
/-- what stood in H, or is new behind H1 -/
def Nb (H H1 : Hp) (a : Addr) : Prop := H a ≠ none ∨ H1 a = none
theorem Nb.back {H H1 H2 : Hp} {a : Addr} (e : Ex H1 H2) (h : Nb H H2 a) : Nb H H1 a := h.imp id (fresh_back e)
/-- a thing of a shape is told -/
def EvS (te : TE) (σ : L2.St) (H : Hp) (d : Nat) (s : Sh) : Prop := ∀ H1, Ex H H1 → ∀ Q : VK, (∀ v H2, Ex H1 H2 → RepB H2 (Nb H H1) d v s → Q v H2) → te σ H1 Q
def RepA (H : Hp) (B : Addr → Prop) (d : Nat) (vs : List V) (ss : List Sh) : Prop := vs.length = ss.length ∧ ∀ (i : Nat) y s', vs[i]? = some y → ss[i]? = some s' → RepB H B d y s'
def EvSA (ta : TA) (σ : L2.St) (H : Hp) (d : Nat) (ss : List Sh) : Prop := ∀ H1, Ex H H1 → ∀ Q : List V → Hp → Prop, (∀ vs H2, Ex H1 H2 → RepA H2 (Nb H H1) d vs ss → Q vs H2) → ta σ H1 Q
section
variable {K : PySem.W.Frag} {σ : L2.St} {H H' : Hp} {te ta tb : TE} {tr : TA} {d : Nat} {s : Sh} {ss : List Sh} {B : Addr → Prop}
theorem EvS.mono (e : Ex H H') (h : EvS te σ H d s) : EvS te σ H' d s := fun H1 a Q q => h H1 (e.trans a) Q fun v H2 e2 r => q v H2 e2 (r.imp fun b hb _ => hb.imp (fun z => by
  cases hh : H b with
  | none => exact absurd hh z
  | some o => rw [e _ _ hh]; simp) id)
theorem es_is {s' : Sh} (h : EvS te σ H d s) (e : s = s') : EvS te σ H d s' := e ▸ h
theorem es_up (h : EvS te σ H d s) : EvS te σ H (d + 1) s := fun H1 e Q q => h H1 e _ fun v H2 e2 r => q v H2 e2 r.up
theorem es_v {u : V} (h : Ev te σ H u) (hf : flt u) : EvS te σ H (d + 1) (.v u) := fun H1 e Q q => h H1 e _ fun H2 e2 => q u H2 e2 ⟨rfl, hf⟩
theorem es_i {i : Int} (h : Ev te σ H (.int i)) : EvS te σ H (d + 1) (.v (.int i)) := es_v h (.inl ⟨i, rfl⟩)
theorem es_b {i : Bool} (h : Ev te σ H (.bl i)) : EvS te σ H (d + 1) (.v (.bl i)) := es_v h (.inr (.inl ⟨i, rfl⟩))
theorem es_s {i : Str} (h : Ev te σ H (.str i)) : EvS te σ H (d + 1) (.v (.str i)) := es_v h (.inr (.inr (.inl ⟨i, rfl⟩)))
theorem es_n (h : Ev te σ H .non) : EvS te σ H (d + 1) (.v .non) := es_v h (.inr (.inr (.inr rfl)))
theorem es_var {i : Nat} {v : V} (h : σ[i]? = some (some v)) (hr : Rep H d v s) : EvS (tVar i) σ H d s := fun H1 e Q q => ⟨v, h, q v H1 (Ex.refl _) (RepB.imp (fun a h _ => .inl h) (RepB.ex e hr.on))⟩
theorem es_nil : EvSA tNil σ H d [] := fun H1 _ _ q => q [] H1 (Ex.refl _) ⟨rfl, fun i y s' h => by simp at h⟩
theorem RepA.cons {v : V} {vs : List V} (h : RepB H B d v s) (hr : RepA H B d vs ss) : RepA H B d (v :: vs) (s :: ss) := ⟨by simp [hr.1], fun i y s' q1 q2 => by
  cases i with
  | zero =>
    cases (Option.some.inj q1)
    cases (Option.some.inj q2)
    exact h
  | succ i => exact hr.2 i y s' q1 q2⟩
theorem RepA.ex {vs : List V} (e : Ex H H') (h : RepA H B d vs ss) : RepA H' B d vs ss := ⟨h.1, fun i y s' q1 q2 => (h.2 i y s' q1 q2).ex e⟩
theorem RepA.imp {B' : Addr → Prop} {vs : List V} (e : ∀ a, B a → B' a) (h : RepA H B d vs ss) : RepA H B' d vs ss := ⟨h.1, fun i y s' q1 q2 => (h.2 i y s' q1 q2).imp fun a b _ => e a b⟩
theorem es_cons (h : EvS ta σ H d s) (hr : EvSA tr σ H d ss) : EvSA (tCons ta tr) σ H d (s :: ss) := fun H1 e Q q => h H1 e _ fun v H2 e2 r2 => hr H2 (Ex.trans e e2) _ fun vs H3 e3 r3 => q (v :: vs) H3 (Ex.trans e2 e3) (.cons (r2.ex e3) (r3.imp fun a b => b.back e2))
theorem es_lst (h : EvSA tr σ H d ss) (hl : ss.length ≤ 40000) : EvS (tLst tr) σ H (d + 1) (.l ss) := fun H1 e Q q => h H1 e _ fun vs H2 e2 r2 => ⟨sz_of (by rw [r2.1]; omega), fun p np => q (.ref p) _ (Ex.trans e2 (Ex.new np)) ⟨p, vs, rfl, .inr (fresh_back e2 np), upd_same, r2.1, by rw [r2.1]; exact hl, (r2.ex (Ex.new np)).2⟩⟩
theorem es_tup (h : EvSA tr σ H d ss) (hl : ss.length ≤ 40000) : EvS (tTup tr) σ H (d + 1) (.t ss) := fun H1 e Q q => h H1 e _ fun vs H2 e2 r2 => ⟨sz_of (by rw [r2.1]; omega), fun p np => q (.ref p) _ (Ex.trans e2 (Ex.new np)) ⟨p, vs, rfl, .inr (fresh_back e2 np), upd_same, r2.1, by rw [r2.1]; exact hl, (r2.ex (Ex.new np)).2⟩⟩
theorem es_ofL {xs : List V} (h : EvL te σ H xs) (hl : xs.length ≤ 40000) (hf : ∀ x ∈ xs, flt x) : EvS te σ H (d + 2) (.l (xs.map .v)) := fun H1 e Q q => h H1 e _ fun p H2 np e2 hp => q (.ref p) H2 e2 (rep_flat (.inr np) hp hl hf)
theorem es_ofU {xs : List V} (h : EvU te σ H xs) (hl : xs.length ≤ 40000) (hf : ∀ x ∈ xs, flt x) : EvS te σ H (d + 2) (.t (xs.map .v)) := fun H1 e Q q => h H1 e _ fun p H2 np e2 hp => q (.ref p) H2 e2 (rep_flatT (.inr np) hp hl hf)
/-- the same shape is the same -/
theorem ev_sameS (h1 : EvS ta σ H d s) (h2 : EvS tb σ H d s) : Ev (tCall (spSame d) [] E0 (tCons ta (tCons tb tNil))) σ H (.bl true) := fun H1 e Q q =>
  h1 H1 e _ fun v H2 e2 r2 => h2 H2 (Ex.trans e e2) _ fun u H3 e3 r3 => ⟨v, u, rfl, Rep.same (RepB.ex e3 r2.rep) r3.rep, fun H4 e4 => q H4 (Ex.trans e2 (Ex.trans e3 e4))⟩
/-- behind i turns of a comprehension -/
def CwS (H H1 : Hp) (d : Nat) (g : Nat → Sh) (D : Addr) (i : Nat) (H' : Hp) : Prop := H D = none ∧ H1 D = none ∧ Ex H1 H' ∧ ∃ vs, H' D = some (.lst vs) ∧ vs.length = i ∧ ∀ (k : Nat) y, vs[k]? = some y → RepB H' (fun a => Nb H H1 a ∧ a ≠ D) d y (g k)
theorem cws_turn {H H1 H' : Hp} {d : Nat} {g : Nat → Sh} {D : Addr} {i : Nat} {σ2 : L2.St} {te : TE} (e : Ex H H1) (p : CwS H H1 d g D i H') (hi : i < 50000) (he : EvS te σ2 H d (g i)) :
    tYes σ2 H' fun b H3 => if b = true then te σ2 H3 fun y H4 => ∃ acc, H4 D = some (.lst acc) ∧ acc.length < sizeLine ∧ CwS H H1 d g D (i + 1) (upd H4 D (.lst (acc ++ [y]))) else CwS H H1 d g D (i + 1) H3 := by
  obtain ⟨p0, p1, p2, vs, p3, p4, p5⟩ := p
  show te σ2 H' _
  refine he H' (Ex.trans e p2) _ fun v H4 e4 r4 => ?_
  have hD4 := e4 _ _ p3
  have up : ∀ {k : Nat} {y : V} {s : Sh}, RepB H4 (fun a => Nb H H1 a ∧ a ≠ D) d y s → RepB (upd H4 D (.lst (vs ++ [v]))) (fun a => Nb H H1 a ∧ a ≠ D) d y s := fun h => h.mono fun a o b q _ => ⟨b, by rw [upd_ne b.2]; exact q⟩
  refine ⟨vs, hD4, sz_lt (by omega), p0, p1, Ex.mut (Ex.trans p2 e4) p1, vs ++ [v], upd_same, by simp [p4], fun k y hy => ?_⟩
  rcases Nat.lt_or_ge k vs.length with hk | hk
  · rw [List.getElem?_append_left hk] at hy
    exact up (k := 0) ((p5 k y hy).ex e4)
  · rw [List.getElem?_append_right hk] at hy
    cases q : k - vs.length with
    | zero =>
      rw [q] at hy
      cases hy
      have : k = i := by omega
      rw [this]
      refine up (k := 0) (r4.imp fun a hb _ => ⟨hb.back p2, fun z => ?_⟩)
      subst z
      rcases hb with hb | hb
      · exact hb p0
      · rw [p3] at hb; cases hb
    | succ m => rw [q] at hy; simp at hy
theorem cws_end {H H1 H' : Hp} {d : Nat} {g : Nat → Sh} {D : Addr} {n : Nat} (p : CwS H H1 d g D n H') (hn : n ≤ 40000) : RepB H' (Nb H H1) (d + 1) (.ref D) (.l ((List.range n).map g)) := by
  obtain ⟨p0, p1, p2, vs, p3, p4, p5⟩ := p
  refine ⟨D, vs, rfl, .inr p1, p3, by simp [p4], by omega, fun i y s' q1 q2 => ?_⟩
  have hi : i < n := by rw [← p4]; exact (List.getElem?_eq_some_iff.mp q1).1
  rw [List.getElem?_map, List.getElem?_range hi] at q2
  cases (Option.some.inj q2)
  exact (p5 i y q1).imp fun a b _ => b.1
/-- [e for k in range(n)] -/
theorem es_lcR {ta : TA} {j n : Nat} {g : Nat → Sh} (h : EvA ta σ H [.int (n : Int)]) (hn : n ≤ 40000) (he : ∀ k < n, EvS te ((wipe σ [j]).set j (some (.int (k : Nat)))) H d (g k)) : EvS (tLc (iRng1 ta) (gName j) tYes te [j]) σ H (d + 1) (.l ((List.range n).map g)) := fun H0 e Q q => h H0 e _ fun H1 e1 => by
  have E1 := Ex.trans e e1
  refine ⟨(n : Int), rfl, by omega, by omega, fun Dl hD => ?_⟩
  refine lc_range (lo := 0) (n := ((n : Int)).toNat) (CwS H H1 d g Dl) ⟨fresh_back E1 hD, hD, Ex.new hD, [], upd_same, rfl, fun k y hy => by simp at hy⟩ (fun i H' hi p => ?_) (fun H' p => ?_)
  · have e0 : (0 : Int) + (i : Int) = (i : Int) := Int.zero_add _
    rw [e0]
    refine ⟨?_, cws_turn E1 p (by omega) (he i (by omega))⟩
    show ((σ.set j none).set j (some (.int (i : Int)))).set j none = σ.set j none
    simp
  · have p' : CwS H H1 d g Dl n H' := by simpa using p
    exact q (.ref Dl) H' (Ex.trans e1 p'.2.2.1) ((cws_end p' hn).imp fun a b _ => b.back e1)
/-- [e for x in l] -/
theorem es_lcL {tl : TE} {j : Nat} {a : Addr} {xs : List V} {g : Nat → Sh} (h : Ev tl σ H (.ref a)) (ha : H a = some (.lst xs)) (hn : xs.length ≤ 40000) (he : ∀ (k : Nat) x, xs[k]? = some x → EvS te ((wipe σ [j]).set j (some x)) H d (g k)) : EvS (tLc (iList K tl) (gName j) tYes te [j]) σ H (d + 1) (.l ((List.range xs.length).map g)) := fun H0 e Q q => h H0 e _ fun H1 e1 => by
  have E1 := Ex.trans e e1
  refine ⟨a, rfl, ⟨xs, sq_of (E1 _ _ ha)⟩, fun Dl hD => ?_⟩
  refine lc_list (xs := xs) (CwS H H1 d g Dl) ⟨fresh_back E1 hD, hD, Ex.new hD, [], upd_same, rfl, fun k y hy => by simp at hy⟩ (fun i H' _ p => sq_of (p.2.2.1 _ _ (E1 _ _ ha))) (fun i x H' hx p => ?_) (fun H' p => ?_)
  · refine ⟨?_, cws_turn E1 p (by have := (List.getElem?_eq_some_iff.mp hx).1; omega) (he i x hx)⟩
    show ((σ.set j none).set j (some x)).set j none = σ.set j none
    simp
  · exact q (.ref Dl) H' (Ex.trans e1 p.2.2.1) ((cws_end p hn).imp fun a b _ => b.back e1)
theorem s_asgS {D : Ends} {i : Nat} (h : EvS te σ H d s) (k : ∀ v H1, Ex H H1 → Rep H1 d v s → D.nx (σ.set i (some v)) H1) : tAsg te (gName i) D σ H := h H (Ex.refl H) _ fun v H1 e r => k v H1 e r.rep
theorem q_asgS {tz : TS} {D : Ends} {i : Nat} (h : EvS te σ H d s) (k : ∀ v H1, Ex H H1 → Rep H1 d v s → tz D (σ.set i (some v)) H1) : tSeq (tAsg te (gName i)) tz D σ H := s_asgS (D := { D with nx := tz D }) h k
end
end Lm

namespace Lm
open PySem L2 Evl RZ LamX
/-! ### what several calls, each tried, tell: a list that grows -/
/-- free in H, or a table -/
def Fr (H : Hp) (a : Addr) : Prop := ∀ o, H a = some o → ∃ ps, o = .tbl ps
theorem Fr.back {H H' : Hp} {a : Addr} (e : ExtN H H') (h : Fr H' a) : Fr H a := fun o ho => Classical.byContradiction fun hc => hc (h o (e _ _ ho fun ps z => hc ⟨ps, z⟩))
theorem Fr.of {H : Hp} {a : Addr} (h : H a = none) : Fr H a := fun o ho => by rw [h] at ho; cases ho
theorem Fr.ne {H : Hp} {a b : Addr} {xs : List V} (h : Fr H a) (hb : H b = some (.lst xs)) : a ≠ b := fun z => by
  subst z
  obtain ⟨ps, q⟩ := h _ hb
  cases q
/-- a tried call tells a thing of the shape s -/
def TrS (Tl : List (Addr × Str)) (te : TE) (σ : L2.St) (H : Hp) (d : Nat) (s : Sh) : Prop := ∀ H1, ExtN H H1 → Tabs Tl H1 → ∀ Q : VK, (∀ v H2, ExtN H1 H2 → Tabs Tl H2 → RepB H2 (Fr H1) d v s → Q v H2) → te σ H1 Q
theorem TrS.extn {Tl : List (Addr × Str)} {te : TE} {σ : L2.St} {H H' : Hp} {d : Nat} {s : Sh} (e : ExtN H H') (h : TrS Tl te σ H d s) : TrS Tl te σ H' d s := fun H1 e1 T1 Q q => h H1 (e.trans e1) T1 Q q
section
variable {Cl : VK → XK} {post : V → Hp → VK → Prop} {Tl : List (Addr × Str)} {C : Addr} {fn tag : Str} {x : V} {σ : L2.St} {H : Hp} {t : XK → TE} {d : Nat}
theorem tr_err (hC : ∀ Q cls d H, ClF C fn tag Q cls d H → Cl Q cls d H) (hx : flt x)
    (h : ∀ H1, ExtN H H1 → ∀ (E : XK) (R : VK), (∀ H' d, Ex H1 H' → H' d = none → E (.ref C) (some d) (upd H' d (.xd [(fn, x)]))) → t E σ H1 R) : TrS Tl (tLam Tl (TTtr Cl post) t) σ H (d + 2) (.t [.v (.str tag), .v x]) := fun H1 e1 T1 Q q =>
  go_trA (x := x) T1 hC (fun H2 e2 E R hE => h H2 (e1.trans e2) E R hE) fun p H2 e2 T2 np hp => q (.ref p) H2 e2 T2 (rep_flatT (xs := [.str tag, x]) np hp (by show 2 ≤ 40000; decide) fun y hy => by
    simp only [List.mem_cons, List.not_mem_nil, or_false] at hy
    rcases hy with rfl | rfl
    · exact .inr (.inr (.inl ⟨_, rfl⟩))
    · exact hx)
theorem tr_oth (hC : ∀ Q cls d H, ClO C tag Q cls d H → Cl Q cls d H) (h : ∀ H1, ExtN H H1 → ∀ (E : XK) (R : VK), (∀ H', Ex H1 H' → E (.ref C) none H') → t E σ H1 R) : TrS Tl (tLam Tl (TTtr Cl post) t) σ H (d + 2) (.t [.v (.str tag)]) := fun H1 e1 T1 Q q =>
  go_trO T1 hC (fun H2 e2 E R hE => h H2 (e1.trans e2) E R hE) fun p H2 e2 T2 np hp => q (.ref p) H2 e2 T2 (rep_flatT (xs := [.str tag]) np hp (by show 1 ≤ 40000; decide) fun y hy => by
    rw [List.mem_singleton.mp hy]
    exact .inr (.inr (.inl ⟨_, rfl⟩)))
theorem tr_told (hx : flt x) (h : ∀ H1, ExtN H H1 → Tabs Tl H1 → ∀ (E : XK) (R : VK), (∀ H', Ex H1 H' → R x H') → t E σ H1 R) : TrS Tl (tLam Tl (TTtr Cl (pTold tag)) t) σ H (d + 2) (.t [.v (.str tag), .v x]) := fun H1 e1 T1 Q q => by
  refine ⟨T1, fun H2 e2 T2 p0 np0 E R _ hR => ?_⟩
  have s0 : Ex H2 (upd H2 p0 (.tup [.str "odd"])) := Ex.new np0
  refine h _ ((e1.trans e2).trans (.of s0)) (T2.ext s0) E R fun H' s => hR _ _ fun p np => ?_
  have s1 : Ex H2 (upd H' p (.tup [.str tag, x])) := Ex.trans s0 (Ex.trans s (Ex.new np))
  refine q (.ref p) _ (e2.trans (.of s1)) (T2.ext s1) (rep_flatT (xs := [.str tag, x]) (Fr.back e2 (Fr.of (fresh_back (Ex.trans s0 s) np))) upd_same (by show 2 ≤ 40000; decide) fun y hy => ?_)
  simp only [List.mem_cons, List.not_mem_nil, or_false] at hy
  rcases hy with rfl | rfl
  · exact .inr (.inr (.inl ⟨_, rfl⟩))
  · exact hx
end
/-- the list at l of what was found -/
structure Fnd (Tl : List (Addr × Str)) (H0 : Hp) (l : Addr) (d : Nat) (ss : List Sh) (H : Hp) : Prop where
  ex : ExtN H0 H
  nl : Fr H0 l
  tb : Tabs Tl H
  ls : ∃ xs, H l = some (.lst xs) ∧ RepA H (fun a => a ≠ l) d xs ss
section
variable {K : PySem.W.Frag} {Tl : List (Addr × Str)} {te : TE} {tz : TS} {D : Ends} {σ : L2.St} {H0 H : Hp} {l : Addr} {d i : Nat} {s : Sh} {ss : List Sh}
theorem Fnd.rep (F : Fnd Tl H0 l d ss H) (hl : ss.length ≤ 40000) : Rep H (d + 1) (.ref l) (.l ss) := by
  obtain ⟨xs, h1, h2, h3⟩ := F.ls
  exact ⟨l, xs, rfl, trivial, h1, h2, by omega, fun i y s' q1 q2 => (h3 i y s' q1 q2).rep⟩
theorem Tabs_mutL {T : List (Addr × Str)} {H : Hp} {l : Addr} {xs : List V} {o : HO} (t : LamX.Tabs T H) (hl : H l = some (.lst xs)) : LamX.Tabs T (upd H l o) := fun p hp => by
  obtain ⟨ps, h1, h2, h3⟩ := t p hp
  refine ⟨ps, by rw [upd_ne (ne_of h1 hl (by intro z; cases z))]; exact h1, h2, fun pos cv hc => ?_⟩
  obtain ⟨c, e1, e2⟩ := h3 pos cv hc
  exact ⟨c, e1, by rw [upd_ne (ne_of e2 hl (by intro z; cases z))]; exact e2⟩
theorem ExtN_mutL {H H' : Hp} {l : Addr} {o : HO} (e : LamX.ExtN H H') (nl : Fr H l) : LamX.ExtN H (upd H' l o) := fun b u h n => by
  rw [upd_ne (fun z => by subst z; obtain ⟨ps, q⟩ := nl u h; exact n ps q)]
  exact e b u h n
theorem RepA_snoc {H : Hp} {B : Addr → Prop} {d : Nat} {vs : List V} {ss : List Sh} {v : V} {s : Sh} (h : RepA H B d vs ss) (hv : RepB H B d v s) : RepA H B d (vs ++ [v]) (ss ++ [s]) := ⟨by simp [h.1], fun i y s' q1 q2 => by
  rcases Nat.lt_or_ge i vs.length with hi | hi
  · rw [List.getElem?_append_left hi] at q1
    rw [List.getElem?_append_left (by rw [← h.1]; exact hi)] at q2
    exact h.2 i y s' q1 q2
  · rw [List.getElem?_append_right hi] at q1
    rw [List.getElem?_append_right (by rw [← h.1]; exact hi), ← h.1] at q2
    cases q : i - vs.length with
    | zero =>
      rw [q] at q1 q2
      cases q1
      cases q2
      exact hv
    | succ n => rw [q] at q1; simp at q1⟩
theorem go_fst (T : Tabs Tl H) (h : TrS Tl te σ H d s) (k : ∀ l H1, Fnd Tl H l d [s] H1 → tz D (σ.set i (some (.ref l))) H1) : tSeq (tAsg (tLst (tCons te tNil)) (gName i)) tz D σ H :=
  h H (ExtN.refl _) T _ fun v H1 e1 T1 r1 => ⟨by show 1 ≤ sizeLine; decide, fun l nl => k l _ ⟨e1.trans (.of (Ex.new nl)), Fr.back e1 (Fr.of nl), T1.ext (Ex.new nl), [v], upd_same, RepA.cons (r1.mono fun a o hb ho _ => ⟨ne_of_none ho nl, by rw [upd_ne (ne_of_none ho nl)]; exact ho⟩) ⟨rfl, fun i y s' z => by simp at z⟩⟩⟩
theorem go_nxt (F : Fnd Tl H0 l d ss H) (hi : σ[i]? = some (some (.ref l))) (hn : ss.length ≤ 900) (h : TrS Tl te σ H d s) (k : ∀ H1, Fnd Tl H0 l d (ss ++ [s]) H1 → tz D σ H1) : tSeq (tDrop (tBM K "list" rAppend (tVar i) (tCons te tNil))) tz D σ H := by
  obtain ⟨xs, h1, h2⟩ := F.ls
  refine ⟨_, hi, .inl ⟨rfl, _, SqL.of h1⟩, ?_⟩
  refine h H (ExtN.refl _) F.tb _ fun v H1 e1 T1 r1 => ?_
  have hl1 := e1 _ _ h1 (fun _ z => by cases z)
  refine ⟨l, _, _, rfl, rfl, hl1, sz_lt (by rw [h2.1]; omega), k _ ⟨ExtN_mutL (F.ex.trans e1) F.nl, F.nl, Tabs_mutL T1 hl1, _, upd_same, RepA_snoc ⟨h2.1, fun i y s' q1 q2 => (h2.2 i y s' q1 q2).mono fun a o hb ho hn => ⟨hb, by rw [upd_ne hb]; exact e1 _ _ ho hn⟩⟩ (r1.mono fun a o hb ho _ => ?_)⟩⟩
  have hal : a ≠ l := hb.ne h1
  exact ⟨hal, by rw [upd_ne hal]; exact ho⟩
end
/-! ### lists told one behind another -/
theorem RepA_app {H : Hp} {B : Addr → Prop} {d : Nat} {vs us : List V} {ss ts : List Sh} (h : RepA H B d vs ss) (h2 : RepA H B d us ts) : RepA H B d (vs ++ us) (ss ++ ts) := ⟨by simp [h.1, h2.1], fun i y s' q1 q2 => by
  rcases Nat.lt_or_ge i vs.length with hi | hi
  · rw [List.getElem?_append_left hi] at q1
    rw [List.getElem?_append_left (by rw [← h.1]; exact hi)] at q2
    exact h.2 i y s' q1 q2
  · rw [List.getElem?_append_right hi] at q1
    rw [List.getElem?_append_right (by rw [← h.1]; exact hi), ← h.1] at q2
    exact h2.2 _ y s' q1 q2⟩
theorem RepA_nil {H : Hp} {B : Addr → Prop} {d : Nat} : RepA H B d [] [] := ⟨rfl, fun i y s' z => by simp at z⟩
theorem RepA_rep {H : Hp} {B : Addr → Prop} {d : Nat} {vs : List V} {ss : List Sh} (h : RepA H B d vs ss) : ∀ n, RepA H B d (List.replicate n vs).flatten (List.replicate n ss).flatten
  | 0 => RepA_nil
  | n + 1 => by
    rw [List.replicate_succ, List.replicate_succ, List.flatten_cons, List.flatten_cons]
    exact RepA_app h (RepA_rep h n)
theorem flat_len {α : Type} (l : List α) : ∀ n, (List.replicate n l).flatten.length = n * l.length
  | 0 => by simp
  | n + 1 => by rw [List.replicate_succ, List.flatten_cons, List.length_append, flat_len l n, Nat.succ_mul, Nat.add_comm]
theorem rep_l {H : Hp} {B : Addr → Prop} {d : Nat} {v : V} {ss : List Sh} (h : RepB H B (d + 1) v (.l ss)) : ∃ a xs, v = .ref a ∧ B a ∧ H a = some (.lst xs) ∧ RepA H B d xs ss := by
  obtain ⟨a, xs, h1, h2, h3, h4, h5, h6⟩ := h
  exact ⟨a, xs, h1, h2, h3, h4, h6⟩
section
variable {σ : L2.St} {H : Hp} {ta tb : TE} {d n : Nat} {ss ts : List Sh}
theorem es_cat (h1 : EvS ta σ H (d + 1) (.l ss)) (h2 : EvS tb σ H (d + 1) (.l ts)) (hl : ss.length + ts.length ≤ 40000) : EvS (tOp rCat ta tb) σ H (d + 1) (.l (ss ++ ts)) := fun H1 e Q q => h1 H1 e _ fun v H2 e2 r2 => h2 H2 (Ex.trans e e2) _ fun u H3 e3 r3 => by
  obtain ⟨a, xs, rfl, ba, ha, ra⟩ := rep_l r2
  obtain ⟨b, ys, rfl, bb, hb, rb⟩ := rep_l r3
  refine ⟨a, b, xs, ys, rfl, rfl, e3 _ _ ha, hb, sz_of (by rw [ra.1, rb.1]; omega), fun p np => q (.ref p) _ (Ex.trans e2 (Ex.trans e3 (Ex.new np))) ?_⟩
  refine ⟨p, xs ++ ys, rfl, .inr (fresh_back (Ex.trans e2 e3) np), upd_same, by rw [List.length_append, List.length_append, ra.1, rb.1], by rw [List.length_append, ra.1, rb.1]; exact hl, (RepA_app ((ra.ex e3).ex (Ex.new np)) ((rb.imp fun a b => b.back e2).ex (Ex.new np))).2⟩
theorem es_rep (h1 : EvS ta σ H (d + 1) (.l ss)) (h2 : Ev tb σ H (.int (n : Int))) (hl : ss.length * n ≤ 40000) (hn : n ≤ 40000) : EvS (tOp rRep ta tb) σ H (d + 1) (.l (List.replicate n ss).flatten) := fun H1 e Q q => h1 H1 e _ fun v H2 e2 r2 => h2 H2 (Ex.trans e e2) _ fun H3 e3 => by
  obtain ⟨a, xs, rfl, ba, ha, ra⟩ := rep_l r2
  refine ⟨a, (n : Int), xs, rfl, rfl, e3 _ _ ha, by omega, by omega, sz_of (by rw [ra.1, Int.toNat_natCast]; omega), fun p np => q (.ref p) _ (Ex.trans e2 (Ex.trans e3 (Ex.new np))) ?_⟩
  have r := RepA_rep ((ra.ex e3).ex (Ex.new np (o := .lst (List.replicate ((n : Int)).toNat xs).flatten))) n
  refine ⟨p, (List.replicate ((n : Int)).toNat xs).flatten, rfl, .inr (fresh_back (Ex.trans e2 e3) np), upd_same, ?_, ?_, ?_⟩
  · rw [Int.toNat_natCast]; exact r.1
  · rw [Int.toNat_natCast, r.1, flat_len, Nat.mul_comm]; exact hl
  · rw [Int.toNat_natCast]
    rw [Int.toNat_natCast] at r
    exact r.2
end
theorem ev_intI {σ : L2.St} {H : Hp} {te : TE} {i : Int} (h : Ev te σ H (.int i)) : Ev (tCB (fun xs H Q => (∃ i, xs = [V.int i] ∧ Q (V.int i) H) ∨ ∃ k, xs = [V.bl k] ∧ Q (V.int (if k = true then 1 else 0)) H) (tCons te tNil)) σ H (.int i) := fun H1 e Q q => h H1 e _ fun H2 e2 => .inl ⟨i, rfl, q H2 e2⟩
end Lm

namespace Lm
open PySem L2 Evl RZ
theorem wipe1 (σ : L2.St) (j : Nat) (x : V) : wipe ((wipe σ [j]).set j (some x)) [j] = wipe σ [j] := by
  show ((σ.set j none).set j (some x)).set j none = σ.set j none
  simp
theorem given_true (n : Nat) (v : Nat → V) : given n (fun _ => true) v = (List.range n).map v := by
  unfold given
  rw [List.filter_eq_self.mpr fun _ _ => rfl]
theorem range_mapD {α β : Type} (l : List α) (g : α → β) (d : β) : (List.range l.length).map (fun i => (l.map g).getD i d) = l.map g := by
  refine List.ext_getElem? fun i => ?_
  rw [List.getElem?_map, List.getElem?_map]
  rcases Nat.lt_or_ge i l.length with h | h
  · rw [List.getElem?_range h, List.getElem?_eq_getElem h]
    simp [List.getD_eq_getElem?_getD, List.getElem?_eq_getElem h]
  · rw [List.getElem?_eq_none (by simpa using h), List.getElem?_eq_none h]
    rfl
theorem getD_of {α β : Type} {l : List α} {g : α → β} {d : β} {i : Nat} {x : α} (h : l[i]? = some x) : (l.map g).getD i d = g x := by
  rw [List.getD_eq_getElem?_getD, List.getElem?_map, h]
  rfl
theorem et_yes {σ : L2.St} {H : Hp} : EvT tYes σ H true := fun H1 _ _ q => q H1 (Ex.refl H1)
section
variable {K : PySem.W.Frag} {σ : L2.St} {H : Hp} {ta tb te : TE}
theorem map_inv {α : Type} {l : List α} {f : α → V} {i : Nat} {v : V} (h : (l.map f)[i]? = some v) : ∃ x, l[i]? = some x ∧ v = f x := by
  rw [List.getElem?_map] at h
  cases e : l[i]? with
  | none => rw [e] at h; cases h
  | some a => rw [e] at h; exact ⟨a, rfl, (Option.some.inj h).symm⟩
/-- [e for x in l], l a list -/
theorem el_mapL {α : Type} {l : List α} {f g : α → V} {tl : TE} {j : Nat} {a : Addr} (h : Ev tl σ H (.ref a)) (ha : H a = some (.lst (l.map f))) (hz : l.length ≤ 40000) (he : ∀ x ∈ l, ∀ H1, Ex H H1 → Ev te ((wipe σ [j]).set j (some (f x))) H1 (g x)) :
    EvL (tLc (iList K tl) (gName j) tYes te [j]) σ H (l.map g) := by
  have := el_lcL (K := K) (σ := σ) (H := H) (tl := tl) (t := tYes) (te := te) (vs := [j]) (j := j) (fun _ => true) (fun i => (l.map g).getD i .non) h (sq_of ha) (by rw [List.length_map]; exact hz) (fun v => wipe1 _ j v) (fun _ _ _ _ _ => et_yes) fun i v H1 e1 hv _ => by
    obtain ⟨x, hx, rfl⟩ := map_inv hv
    rw [getD_of hx]
    exact he x (List.mem_of_getElem? hx) H1 e1
  rw [given_true, List.length_map, range_mapD] at this
  exact this
/-- … a new list -/
theorem el_mapN {α : Type} {l : List α} {f g : α → V} {tl : TE} {j : Nat} (h : EvL tl σ H (l.map f)) (hz : l.length ≤ 40000) (he : ∀ x ∈ l, ∀ H1, Ex H H1 → Ev te ((wipe σ [j]).set j (some (f x))) H1 (g x)) :
    EvL (tLc (iList K tl) (gName j) tYes te [j]) σ H (l.map g) := by
  have := el_lcNL (K := K) (σ := σ) (H := H) (tl := tl) (t := tYes) (te := te) (vs := [j]) (j := j) (fun _ => true) (fun i => (l.map g).getD i .non) h (by rw [List.length_map]; exact hz) (fun v => wipe1 _ j v) (fun _ _ _ _ _ => et_yes) fun i v H1 e1 hv _ => by
    obtain ⟨x, hx, rfl⟩ := map_inv hv
    rw [getD_of hx]
    exact he x (List.mem_of_getElem? hx) H1 e1
  rw [given_true, List.length_map, range_mapD] at this
  exact this
/-- … a tuple -/
theorem el_mapT {α : Type} {l : List α} {f g : α → V} {tl : TE} {j : Nat} {a : Addr} (h : Ev tl σ H (.ref a)) (ha : H a = some (.tup (l.map f))) (hz : l.length ≤ 40000) (he : ∀ x ∈ l, ∀ H1, Ex H H1 → Ev te ((wipe σ [j]).set j (some (f x))) H1 (g x)) :
    EvL (tLc (iTup K tl) (gName j) tYes te [j]) σ H (l.map g) := fun H0 e Q q => h H0 e _ fun H1 e1 => ⟨a, rfl, ⟨_, st_of ((Ex.trans e e1) _ _ ha)⟩, fun Dl hD => by
  refine lc_tup (K := K) (a := a) (xs := l.map f) (Cw H1 (fun _ => true) (fun i => (l.map g).getD i .non) Dl) ⟨hD, Ex.new hD, upd_same⟩ (fun i H' _ p => st_of (Ex.trans (Ex.trans e e1) p.2.1 _ _ ha)) (fun i v H' hv p => ⟨wipe1 _ j v, ?_⟩) (fun H' p => ?_)
  · obtain ⟨x, hx, rfl⟩ := map_inv hv
    refine cw_turn p (by have := (List.getElem?_eq_some_iff.mp hx).1; omega) et_yes fun _ => ?_
    rw [getD_of hx]
    exact he x (List.mem_of_getElem? hx) H1 (Ex.trans e e1)
  · have p3 := p.2.2
    rw [given_true, List.length_map, range_mapD] at p3
    exact q Dl H' (fresh_back e1 p.1) (Ex.trans e1 p.2.1) p3⟩
/-- [e for k in range(n)] -/
theorem el_mapR {ta : TA} {j : Nat} {n : Nat} {g : Nat → V} (h : EvA ta σ H [.int (n : Int)]) (hn : n ≤ 40000) (he : ∀ k < n, ∀ H1, Ex H H1 → Ev te ((wipe σ [j]).set j (some (.int (k : Nat)))) H1 (g k)) :
    EvL (tLc (iRng1 ta) (gName j) tYes te [j]) σ H ((List.range n).map g) := by
  have := el_lcR1 (σ := σ) (H := H) (ta := ta) (t := tYes) (te := te) (vs := [j]) (j := j) (n := (n : Int)) (fun _ => true) g h ⟨by omega, by omega⟩ (fun v => wipe1 _ j v) (fun _ _ _ _ => et_yes) fun i H1 e1 hi _ => he i (by omega) H1 e1
  rw [given_true] at this
  exact this
end
end Lm

namespace Lm
open PySem L2 Evl RZ
/-! ### fields of rules -/
def cols : List (List Str) := [["no", "last", "raise", "row"], ["no", "last", "raise", "lower"], ["no", "least"], ["no", "last", "raise", "later"], ["no", "last", "raise", "later"], ["exact", "floored"]]
structure FldOk (nm : Str) (r : List Str) : Prop where
  wd : isW nm = true
  len : r.length = 6
  ok : ∀ (i : Nat) w c, r[i]? = some w → cols[i]? = some c → w ∈ c
/-- the written columns -/
structure ColsAt (K : PySem.W.Frag) (C0 : Addr) : Prop where
  ex : ∃ ps : List (Addr × Str × Addr), ps.length = 6 ∧ (∀ H, SqT K H C0 (ps.map fun z => V.ref z.1)) ∧ ∀ (i : Nat) z, ps[i]? = some z → (∀ H, SqT K H z.1 [.str z.2.1, .ref z.2.2]) ∧ ∃ c, cols[i]? = some c ∧ ∀ H, SqT K H z.2.2 (c.map V.str)
structure RlCst (mg : Str → Option Value) (C0 W0 : Addr) (tM : Tok) : Prop where
  g_MOST_FIELDS : mg "MOST_FIELDS" = some (.int 3 tM)
  g_COLUMNS : mg "COLUMNS" = some (.ref C0)
  g_WAYS : mg "WAYS" = some (.ref W0)
abbrev c_MOST_FIELDS : V := .int 3
theorem walk_zipN {K : PySem.W.Frag} {a b : Addr} {xs ys : List V} {n : Nat} (hn : n = min xs.length ys.length) : Walk (ItzN K a b) n (fun H => SqT K H a xs ∧ SqL K H b ys) (YPair (fun i => xs[i]?) (fun i => ys[i]?)) := by
  subst hn
  refine ⟨fun i _ hi q => ?_, fun _ q => ⟨xs, ys, q.1, q.2, by omega, by omega, by omega⟩, fun i H v H' _ q y => ?_⟩
  · have h1 : i < xs.length := by omega
    have h2 : i < ys.length := by omega
    exact ⟨xs, ys, xs[i], ys[i], q.1, q.2, by simp [h1], by simp [h2]⟩
  · obtain ⟨T, x, z, h1, h2, h3, h4, h5⟩ := y
    exact ⟨T, x, z, h1, h2, h3, h4 xs q.1, h5 ys q.2⟩
theorem strs_flat1 (l : List Str) : (l.map V.str).all flatV = true := by
  rw [List.all_eq_true]
  intro x hx
  obtain ⟨n, _, rfl⟩ := List.mem_map.mp hx
  rfl
theorem strs_in1 (l : List Str) (x : Str) : inV (.str x) (l.map V.str) = decide (x ∈ l) := by
  unfold inV
  induction l with
  | nil => rfl
  | cons a r ih =>
    rw [List.map_cons, List.any_cons, ih]
    show ((a == x) || decide (x ∈ r)) = decide (x ∈ a :: r)
    by_cases h : a = x
    · subst h; simp
    · have h3 : ¬ x = a := fun z => h z.symm
      simp [h, h3]
theorem rv_ixQ1 {K : PySem.W.Frag} {H : Hp} {p : Addr} {xs : List V} {n : Nat} {v : V} (h : SeqAt H p xs) (hx : xs[n]? = some v) : RV (rIx K) (.ref p) (.int (n : Nat)) H v := fun H1 e Q q => by
  rcases h with h | h
  · exact .inl ⟨p, xs, (n : Int), v, rfl, rfl, SqL.of (e _ _ h), atI_nat hx, q H1 (Ex.refl _)⟩
  · exact .inr (.inl ⟨p, xs, (n : Int), v, rfl, rfl, SqT.of (e _ _ h), atI_nat hx, q H1 (Ex.refl _)⟩)
theorem ev_lenQ1 {K : PySem.W.Frag} {σ : L2.St} {H : Hp} {te : TE} {p : Addr} {xs : List V} (ha : Ev te σ H (.ref p)) (h : SeqAt H p xs) : Ev (tCB (rLenS K) (tCons te tNil)) σ H (.int (xs.length : Int)) := h.elim (fun h => ev_lenL ha h) fun h => ev_lenT ha h
theorem isW_sz {x : Str} (h : isW x = true) : x.cps.size ≤ 1000 := by
  unfold isW at h
  simp at h
  omega
theorem map_inv1 {α : Type} {f : α → V} {l : List α} {i : Nat} {v : V} (h : (l.map f)[i]? = some v) : ∃ x, l[i]? = some x ∧ v = f x := by
  rw [List.getElem?_map] at h
  cases hi : l[i]? with
  | none => rw [hi] at h; cases h
  | some x => rw [hi] at h; cases h; exact ⟨x, rfl, rfl⟩
theorem sIx1 (x : V) (xs : List V) : HT.sIx (x :: xs).length 0 (some 1) = 1 := by
  show _ = _
  unfold HT.sIx
  simp
theorem cut1 (x : V) (xs : List V) : cutV (x :: xs) (some 1) none = xs := by
  unfold cutV
  have h1 : HT.sIx (x :: xs).length 0 (some 1) = 1 := by
    show _ = _
    unfold HT.sIx
    simp
  have h2 : HT.sIx (x :: xs).length (x :: xs).length none = (x :: xs).length := rfl
  rw [h1, h2]
  simp
section
variable {P : Program} {w : World} {K : PySem.W.Frag} {mg : Str → Option Value} {base : Heap} {f : Addr} {fd : FuncData}
/-- a good field behind good ones -/
def spWrongNo : Sp := fun vs H Q _ => ∃ (a l : Addr) (nm : Str) (r names : List Str), vs = [.ref a, .ref l] ∧ SeqAt H a ((nm :: r).map V.str) ∧ FldOk nm r ∧ H l = some (.lst (names.map V.str)) ∧ names.length < 3 ∧ nm ∉ names ∧ ∀ H', Same H H' → Q .non H'
abbrev s_wrong_with : Stmt := top 17
theorem sc_wrong_with : FnScope ["field", "names", "column", "words", "word"] ["field", "names"] (defScope s_wrong_with) := ⟨rfl, rfl, rfl, by decide +kernel, rfl, by decide +kernel, by decide +kernel⟩
theorem ok_wrong_no {C0 W0 fR fI : Addr} {fdR fdI : FuncData} {tM : Tok} (F : L2.Fun K "wrong_with" "wrong_with" s_wrong_with f fd) (T : Blt mg) (T' : RlCst mg C0 W0 tM) (CC : ColsAt K C0) (D_is_row : DefOk P w K mg base 1 "is_row" fR fdR ["x"] spIsRow) (D_is_word : DefOk P w K mg base 1 "is_word" fI fdI ["x"] spIsWord) :
    FnOk P w K mg base CX0 2 f fd ["field", "names"] spWrongNo := by
  refine F.ok sc_wrong_with (fun vs H Q E h => ?_) (fun cdv A outer s H vs Q E hr h => ?_)
  · obtain ⟨a, l, nm, r, names, rfl, _⟩ := h
    rfl
  · obtain ⟨a, l, nm, r, names, rfl, ha, hf, hl, hn, hnn, k⟩ := h
    obtain ⟨ps, lps, hC, hps⟩ := CC.ex
    refine ⟨_, (pss_cons (ps_if (PW.pt (pw_or (pt_cmpR op_eq (pe_callB call_len_seq (by rfl) T.b_len PySem.boot_len (pa_cons (pv 1) pa_nil)) (pe_glob (v := c_MOST_FIELDS) rfl T'.g_MOST_FIELDS ⟨_, rfl⟩) (nomark _)) (pw_or (pt_not (pt_val (pe_d D_is_row (hr.mono (by decide)) (pa_cons (pv 0) pa_nil)))) (pw_or1 (pt_cmpR op_ne (pe_callB call_len_seq (by rfl) T.b_len PySem.boot_len (pa_cons (pv 0) pa_nil)) (pe_op op_add pe_int (pe_callB call_len_seq (by rfl) T.b_len PySem.boot_len (pa_cons (pe_glob (v := .ref C0) rfl T'.g_COLUMNS rfl) pa_nil))) (nomark _)))))) (pss_one (ps_ret pe_str)) pss_nil)
        (pss_cons (ps_if (PW.pt (pw_or (pt_not (pt_val (pe_d D_is_word (hr.mono (by decide)) (pa_cons (pe_ix ix_seq (pv 0) pe_int (fun _ _ => rfl)) pa_nil)))) (pw_or1 (pt_cmpR op_in_seq (pe_ix ix_seq (pv 0) pe_int (fun _ _ => rfl)) (pv 1) (by rfl))))) (pss_one (ps_ret pe_str)) pss_nil)
        (pss_cons (ps_for PassesOwn.never rfl (pi_or (pi_zipN rfl T.b_zip (pa_cons (pe_glob (v := .ref C0) rfl T'.g_COLUMNS rfl) (pa_cons (pe_slice (SlR.or sl_list sl_tup) (pv 0) (po_some pe_int) po_none) pa_nil))) (pi_zipA rfl T.b_zip (pa_cons (pe_glob (v := .ref C0) rfl T'.g_COLUMNS rfl) (pa_cons (pe_slice (SlR.or sl_list sl_tup) (pv 0) (po_some pe_int) po_none) pa_nil)))) (pg_tup rfl (pgs_cons (pg_tup rfl (pgs_cons (pg_name (i := 2) sc_wrong_with.nd rfl (by first | exact Or.inl rfl | exact Or.inr rfl)) (pgs_cons (pg_name (i := 3) sc_wrong_with.nd rfl (by first | exact Or.inl rfl | exact Or.inr rfl)) pgs_nil))) (pgs_cons (pg_name (i := 4) sc_wrong_with.nd rfl (by first | exact Or.inl rfl | exact Or.inr rfl)) pgs_nil))) (pss_one (ps_if (pt_cmpR op_notIn_seq (pv 4) (pv 3) (by rfl)) (pss_one (ps_ret (pv 2))) pss_nil)))
        (pss_one (ps_ret pe_non))))), ?_⟩
    have eC : ∀ {σ : L2.St} {H1 : Hp}, Ev (tCB (rLenS K) (tCons (tC (.ref C0)) tNil)) σ H1 (.int 6) := fun {σ H1} H2 e2 Q q => ⟨C0, _, rfl, .inr (hC H2), by rw [List.length_map, lps]; exact q H2 (Ex.refl _)⟩
    have isr : Ev (tCall spIsRow [] E0 (tCons (tVar 0) tNil)) [some (.ref a), some (.ref l), none, none, none] H (.bl true) := fun H1 e1 Q q => ⟨_, rfl, a, _, rfl, ha.elim (fun h => .inl (e1 _ _ h)) (fun h => .inr (e1 _ _ h)), fun H2 e2 => q H2 e2⟩
    have lr : ((nm :: r).map V.str).length = 7 := by simp [hf.len]
    refine q_when (b := false) (et_is (et_or (et_test (ev_op (ev_lenL (ev_var rfl) hl) ev_c (rv_eq rfl))) fun _ => et_or (et_not (et_B isr)) fun _ => et_test (ev_op (ev_lenQ1 (ev_var rfl) ha) (ev_op ev_c eC rv_I0) (rv_ne rfl))) ?_) (fun z => nomatch z) fun _ H1 e1 => ?_
    · rw [lr, List.length_map]
      have : ¬ V.int (names.length : Int) = V.int 3 := fun z => by have := V.int.inj z; omega
      simp [this]
    have ha1 : SeqAt H1 a ((nm :: r).map V.str) := ha.elim (fun h => .inl (e1 _ _ h)) fun h => .inr (e1 _ _ h)
    have hl1 := e1 _ _ hl
    have e0 : ∀ {H2 : Hp} {σ : L2.St}, Ex H1 H2 → σ[0]? = some (some (.ref a)) → Ev (tOp (rIx K) (tVar 0) (tC (.int 0))) σ H2 (.str nm) := fun e2 h0 => ev_op (ev_var h0) ev_c (rv_ixQ1 (n := 0) (ha1.elim (fun h => .inl (e2 _ _ h)) fun h => .inr (e2 _ _ h)) rfl)
    have isw : Ev (tCall spIsWord [] E0 (tCons (tOp (rIx K) (tVar 0) (tC (.int 0))) tNil)) [some (.ref a), some (.ref l), none, none, none] H1 (.bl (isW nm)) := fun H2 e2 Q q => e0 e2 rfl H2 (Ex.refl _) _ fun H3 e3 => ⟨nm, rfl, isW_sz hf.wd, fun H4 e4 => q H4 (Ex.trans e3 e4)⟩
    refine q_when (b := false) (et_is (et_or (et_not (et_B isw)) fun _ => et_test (ev_op (e0 (Ex.refl _) rfl) (ev_var rfl) (rv_isL (sq_of hl1) rfl (strs_flat1 _)))) ?_) (fun z => nomatch z) fun _ H2 e2 => ?_
    · rw [hf.wd, strs_in1, decide_eq_false hnn]
      rfl
    have turn : ∀ (Hb : Hp) (i : Nat) (σ' : L2.St) (H3 H4 : Hp) (x : V) (D : Ends), i < 6 → (∃ u2 u3 u4 : Option V, σ' = [some (.ref a), some (.ref l), u2, u3, u4] ∧ Same Hb H3) → YPair (fun i => (ps.map fun z => V.ref z.1)[i]?) (fun i => (r.map V.str)[i]?) i H3 x H4 →
        gTup K 2 (gCons (gTup K 2 (gCons (gName 2) (gCons (gName 3) gNil))) (gCons (gName 4) gNil)) x σ' H4 fun σ2 H2 => tIfS (tTest (tOp (rIn K true) (tVar 4) (tVar 3))) (tRet (tVar 2)) tNext { D with nx := fun σ' H' => ∃ u2 u3 u4 : Option V, σ' = [some (.ref a), some (.ref l), u2, u3, u4] ∧ Same Hb H' } σ2 H2 := by
      rintro Hb i σ' H3 H4 x D hi ⟨u2, u3, u4, rfl, e⟩ ⟨tpa, x1, x2, rfl, nT, rfl, hx1, hx2⟩
      obtain ⟨z, hz, rfl⟩ := map_inv1 hx1
      obtain ⟨wd, hwd, rfl⟩ := map_inv1 hx2
      obtain ⟨hz1, c, hc, hz2⟩ := hps i z hz
      have hw := hf.ok i wd c hwd hc
      have eT := Same.upd' nT (o := .tup [.ref z.1, .str wd])
      refine ⟨tpa, _, rfl, SqT.of upd_same, rfl, _, _, rfl, ⟨z.1, _, rfl, hz1 _, rfl, _, _, rfl, _, _, rfl, rfl, _, _, rfl, rfl, ?_⟩⟩
      dsimp only [List.set]
      refine s_when (b := false) (et_test (b := false) fun H5 e5 Q q => ⟨_, rfl, _, rfl, z.2.2, c.map V.str, rfl, .inr (hz2 _), rfl, strs_flat1 _, ?_⟩) (fun z => nomatch z) fun _ H5 e5 => ⟨_, _, _, rfl, Same.trans (Same.trans e eT) e5⟩
      show Q (.bl (!inV (.str wd) (c.map V.str))) H5
      rw [strs_in1, decide_eq_true hw]
      exact q H5 (Ex.refl _)
    have e02 := Same.trans e1 e2
    have lm : min (ps.map fun z => V.ref z.1).length (r.map V.str).length = 6 := by rw [List.length_map, List.length_map, lps, hf.len]; rfl
    have fin : ∀ (Hb : Hp), Same H2 Hb → ∀ σ' H', (∃ u2 u3 u4 : Option V, σ' = [some (.ref a), some (.ref l), u2, u3, u4] ∧ Same Hb H') → tRet (tC .non) { nx := fun _ H' => Q .non H', rt := Q } σ' H' := fun Hb eb σ' H' ⟨u2, u3, u4, _, e⟩ => s_ret ev_c fun H5 e5 => k H5 (Same.trans e02 (Same.trans eb (Same.trans e e5)))
    have ha2 : SeqAt H2 a ((nm :: r).map V.str) := ha1.elim (fun h => .inl (e2 _ _ h)) fun h => .inr (e2 _ _ h)
    rcases ha2 with h | h
    · refine .inl ⟨_, rfl, (1 : Int), rfl, .inl ⟨a, _, rfl, SqL.of h, fun p np => ?_⟩⟩
      rw [List.map_cons, cut1]
      exact ⟨C0, p, _, _, rfl, hC _, SqL.of upd_same, for_it (walk_zipN rfl) (fun i σ' H' => ∃ u2 u3 u4 : Option V, σ' = [some (.ref a), some (.ref l), u2, u3, u4] ∧ Same (upd H2 p (.lst (r.map V.str))) H') ⟨_, _, _, rfl, Same.refl _⟩ (fun i σ' H' _ ⟨_, _, _, _, e⟩ => ⟨hC _, SqL.of (e _ _ upd_same)⟩) (fun i x σ' H3 H4 hi p y => turn _ i σ' H3 H4 x _ (by rw [lm] at hi; exact hi) p y) (fun σ' H' p => fin _ (Same.upd' np) σ' H' p)⟩
    · refine .inr ⟨_, rfl, (1 : Int), rfl, .inr ⟨a, _, rfl, SqT.of h, ?_, fun p np => ?_⟩⟩
      · rintro ⟨h1, _⟩
        rw [List.map_cons, sIx1] at h1
        cases h1
      · rw [List.map_cons, cut1]
        exact ⟨C0, p, _, _, rfl, .inr ⟨hC _, SqT.of upd_same, for_it (walk_zipT rfl) (fun i σ' H' => ∃ u2 u3 u4 : Option V, σ' = [some (.ref a), some (.ref l), u2, u3, u4] ∧ Same (upd H2 p (.tup (r.map V.str))) H') ⟨_, _, _, rfl, Same.refl _⟩ (fun i σ' H' _ ⟨_, _, _, _, e⟩ => ⟨hC _, SqT.of (e _ _ upd_same)⟩) (fun i x σ' H3 H4 hi p y => turn _ i σ' H3 H4 x _ (by rw [lm] at hi; exact hi) p y) (fun σ' H' p => fin _ (Same.upd' np) σ' H' p)⟩⟩
end
end Lm

namespace Lm
open PySem L2 Evl RZ
/-- rows of texts, each a list or a tuple -/
structure RowsF (H : Hp) (xs : List V) (fs : List (Str × List Str)) : Prop where
  len : xs.length = fs.length
  at_ : ∀ (i : Nat) z, fs[i]? = some z → ∃ p : Addr, xs[i]? = some (.ref p) ∧ SeqAt H p ((z.1 :: z.2).map V.str)
theorem seq_same {H H' : Hp} {p : Addr} {xs : List V} (h : SeqAt H p xs) (e : Same H H') : SeqAt H' p xs := h.elim (fun h => .inl (e _ _ h)) fun h => .inr (e _ _ h)
theorem RowsF.same {H H' : Hp} {xs : List V} {fs : List (Str × List Str)} (h : RowsF H xs fs) (e : Same H H') : RowsF H' xs fs := ⟨h.len, fun i z hz => let ⟨p, h1, h2⟩ := h.at_ i z hz; ⟨p, h1, seq_same h2 e⟩⟩
structure FsOk (fs : List (Str × List Str)) : Prop where
  l0 : 0 < fs.length
  l3 : fs.length ≤ 3
  ok : ∀ z ∈ fs, FldOk z.1 z.2
  nd : (fs.map fun z => z.1).Nodup
/-- for i, x in enumerate(a), a list or a tuple that stands still -/
theorem for_enumA1 {K : PySem.W.Frag} {a : Addr} {xs : List V} {g : TG} {tb : TS} {D : Ends} {σ : St} {H : Hp} (hq : SeqAt H a xs) (Pv : Nat → St → Hp → Prop) (h0 : Pv 0 σ H) (hG : ∀ i σ' H', i ≤ xs.length → Pv i σ' H' → ∀ o, H a = some o → H' a = some o)
    (hs : ∀ i x σ H H', i < xs.length → Pv i σ H → YPair (fun i => some (.int (i : Nat))) (fun i => xs[i]?) i H x H' → g x σ H' fun σ2 H2 => tb { D with nx := Pv (i + 1), ct := Pv (i + 1), bk := D.nx } σ2 H2) (hd : ∀ σ H, Pv xs.length σ H → D.nx σ H) :
    ∃ a' xs', [V.ref a] = [V.ref a'] ∧ ((SqL K H a' xs' ∧ ∃ W : Nat → Nat → St → Hp → Prop, (∃ m, W 0 m σ H) ∧ ∀ i m σ H, W i m σ H →
      ((Ite K a').stop i H ∧ D.nx σ H) ∨ ((Ite K a').go i H ∧ ∃ N : St → Hp → Prop, (∀ σ' H', N σ' H' → ∃ m', m' < m ∧ W (i + 1) m' σ' H') ∧ ∀ x H', (Ite K a').yld i H x H' → g x σ H' fun σ2 H2 => tb { D with nx := N, ct := N, bk := D.nx } σ2 H2)) ∨
      (SqT K H a' xs' ∧ ∃ W : Nat → Nat → St → Hp → Prop, (∃ m, W 0 m σ H) ∧ ∀ i m σ H, W i m σ H →
      ((IteT K a').stop i H ∧ D.nx σ H) ∨ ((IteT K a').go i H ∧ ∃ N : St → Hp → Prop, (∀ σ' H', N σ' H' → ∃ m', m' < m ∧ W (i + 1) m' σ' H') ∧ ∀ x H', (IteT K a').yld i H x H' → g x σ H' fun σ2 H2 => tb { D with nx := N, ct := N, bk := D.nx } σ2 H2))) := by
  rcases hq with hq | hq
  · exact ⟨a, xs, rfl, .inl ⟨SqL.of hq, for_it walk_enum Pv h0 (fun i σ' H' hi p => SqL.of (hG i σ' H' hi p _ hq)) hs hd⟩⟩
  · exact ⟨a, xs, rfl, .inr ⟨SqT.of hq, for_it walk_enumT Pv h0 (fun i σ' H' hi p => SqT.of (hG i σ' H' hi p _ hq)) hs hd⟩⟩
theorem sq_go1 {te : TE} {g : TG} {tz : TS} {D : Ends} {σ : L2.St} {H : Hp} (h : te σ H fun v H1 => g v σ H1 (tz D)) : tSeq (tAsg te g) tz D σ H := h
theorem ev_notN1 {σ : L2.St} {H : Hp} {te : TE} (h : Ev te σ H .non) : Ev (tOp rNotN te (tC .non)) σ H (.bl false) := fun H1 e1 Q q => h H1 e1 _ fun H2 e2 => ⟨rfl, q H2 e2⟩
def ways : List Str := ["stay", "field", "greater"]
section
variable {P : Program} {w : World} {K : PySem.W.Frag} {mg : Str → Option Value} {base : Heap} {f : Addr} {fd : FuncData}
def spReqFields : Sp := fun vs H Q _ => ∃ (a : Addr) (xs : List V) (fs : List (Str × List Str)), vs = [.ref a] ∧ SeqAt H a xs ∧ RowsF H xs fs ∧ FsOk fs ∧ ∀ H', Same H H' → Q .non H'
abbrev s_require_fields : Stmt := top 16
theorem sc_require_fields : FnScope ["fields", "names", "index", "field", "reason"] ["fields"] (defScope s_require_fields) := ⟨rfl, rfl, rfl, by decide +kernel, rfl, by decide +kernel, by decide +kernel⟩
theorem ok_req_fields {fR fW : Addr} {fdR fdW : FuncData} (F : L2.Fun K "require_fields" "require_fields" s_require_fields f fd) (T : Blt mg) (D_is_row : DefOk P w K mg base 1 "is_row" fR fdR ["x"] spIsRow) (D_wrong_with : DefOk P w K mg base 2 "wrong_with" fW fdW ["field", "names"] spWrongNo) :
    FnOk P w K mg base CX0 3 f fd ["fields"] spReqFields := by
  refine F.ok sc_require_fields (fun vs H Q E h => ?_) (fun cdv A outer s H vs Q E hr h => ?_)
  · obtain ⟨a, xs, fs, rfl, _⟩ := h
    rfl
  · obtain ⟨a, xs, fs, rfl, ha, hR, hf, k⟩ := h
    have lx := hR.len
    have l0 := hf.l0
    have l3 := hf.l3
    refine ⟨_, (pss_cons (ps_if (PW.pt (pw_or (pt_not (pt_val (pe_d D_is_row (hr.mono (by decide)) (pa_cons (pv 0) pa_nil)))) (pw_or1 (pt_cmpR op_eq (pe_callB call_len_seq (by rfl) T.b_len PySem.boot_len (pa_cons (pv 0) pa_nil)) pe_int (nomark _))))) (pss_one ps_never) pss_nil)
        (pss_cons (ps_set (i := 1) sc_require_fields.nd rfl (by first | exact Or.inl rfl | exact Or.inr rfl) (pe_lst pa_nil))
        (pss_one (ps_for PassesOwn.never rfl (pi_enumA rfl T.b_enumerate (pa_cons (pv 0) pa_nil)) (pg_tup rfl (pgs_cons (pg_name (i := 2) sc_require_fields.nd rfl (by first | exact Or.inl rfl | exact Or.inr rfl)) (pgs_cons (pg_name (i := 3) sc_require_fields.nd rfl (by first | exact Or.inl rfl | exact Or.inr rfl)) pgs_nil))) (pss_cons (ps_set (i := 4) sc_require_fields.nd rfl (by first | exact Or.inl rfl | exact Or.inr rfl) (pe_d D_wrong_with (hr.mono (by decide)) (pa_cons (pv 3) (pa_cons (pv 1) pa_nil))))
        (pss_cons (ps_if (pt_cmpR op_notN1 (pv 4) pe_non (nomark _)) (pss_one ps_never) pss_nil)
        (pss_one (ps_expr (pe_bm PySem.F.plainAttrs_list PySem.F.slot_list_append PySem.F.type_list_append mt_append (pv 1) (pa_cons (pe_ix ix_seq (pv 3) pe_int (fun _ _ => rfl)) pa_nil)))))))))), ?_⟩
    have isr : Ev (tCall spIsRow [] E0 (tCons (tVar 0) tNil)) [some (.ref a), none, none, none, none] H (.bl true) := fun H1 e1 Q q => ⟨_, rfl, a, _, rfl, seq_same ha e1, fun H2 e2 => q H2 e2⟩
    refine q_when (b := false) (et_is (et_or (et_not (et_B isr)) fun _ => et_test (ev_op (ev_lenQ1 (ev_var rfl) ha) ev_c (rv_eq rfl))) ?_) (fun z => nomatch z) fun _ H1 e1 => ?_
    · have : ¬ V.int (xs.length : Int) = V.int 0 := fun z => by have := V.int.inj z; omega
      simp [this]
    refine q_asgL (el_lst ea_nil (by show 0 ≤ 100000; decide)) fun nl H2 nnl e2 hnl => ?_
    have e02 := Same.trans e1 e2
    have nnl0 : H nl = none := fresh_back e1 nnl
    dsimp only [L2.start, List.set]
    refine ⟨_, rfl, for_enumA1 (seq_same ha e02) (fun i σ' H' => ∃ u2 u3 u4 : Option V, σ' = [some (.ref a), some (.ref nl), u2, u3, u4] ∧ Same H H' ∧ H' nl = some (.lst (((fs.take i).map fun z => z.1).map V.str))) ⟨_, _, _, rfl, e02, hnl⟩ (fun i σ' H' _ ⟨_, _, _, _, e, _⟩ o ho => ?_) ?_ ?_⟩
    · rcases ha with h | h
      · rw [e02 _ _ h] at ho
        cases ho
        exact e _ _ h
      · rw [e02 _ _ h] at ho
        cases ho
        exact e _ _ h
    · rintro i x σ' H3 H4 hi ⟨u2, u3, u4, rfl, e, hn⟩ ⟨tpa, x1, x2, rfl, nT, rfl, hx1, hx2⟩
      cases (Option.some.inj hx1)
      have hif : i < fs.length := by omega
      have hz : fs[i]? = some fs[i] := List.getElem?_eq_getElem hif
      obtain ⟨p, hp, hsp⟩ := hR.at_ i _ hz
      have hx2 : xs[i]? = some x2 := hx2
      rw [hp] at hx2
      cases hx2
      generalize fs[i] = z at hz hsp
      have eT := Same.upd' nT (o := .tup [.int (i : Nat), .ref p])
      have e4 := Same.trans e eT
      have hn4 := eT _ _ hn
      refine ⟨tpa, _, rfl, SqT.of upd_same, rfl, _, _, rfl, _, _, rfl, rfl, ?_⟩
      dsimp only [List.set]
      generalize upd H3 tpa (.tup [.int (i : Nat), .ref p]) = H4 at e4 hn4 ⊢
      have hnn : z.1 ∉ (fs.take i).map fun z => z.1 := fun h => by
        obtain ⟨y, hy, hyz⟩ := List.mem_map.mp h
        obtain ⟨j, hj, hjy⟩ := List.mem_iff_getElem.mp hy
        rw [List.length_take] at hj
        rw [List.getElem_take] at hjy
        have h1 := List.pairwise_iff_getElem.mp hf.nd j i (by rw [List.length_map]; omega) (by rw [List.length_map]; omega) (by omega)
        rw [List.getElem_map, List.getElem_map] at h1
        have h2 : fs[i] = z := by rw [List.getElem?_eq_getElem hif] at hz; exact Option.some.inj hz
        rw [hjy, h2] at h1
        exact h1 hyz
      refine sq_go1 ⟨_, rfl, _, rfl, p, nl, z.1, z.2, _, rfl, seq_same hsp e4, hf.ok z (List.mem_of_getElem? hz), hn4, by rw [List.length_map, List.length_take]; omega, hnn, fun H5 e5 => ?_⟩
      dsimp only [gName, List.set]
      refine q_when (b := false) (et_test (ev_notN1 (ev_var rfl))) (fun z => nomatch z) fun _ H6 e6 => ?_
      have e46 := Same.trans e5 e6
      refine s_app (e46 _ _ hn4) (ev_var rfl) (ev_op (ev_var rfl) ev_c (rv_ixQ1 (n := 0) (seq_same (seq_same hsp e4) e46) rfl)) (by rw [List.length_map, List.length_map, List.length_take]; omega) fun H7 e7 => ?_
      refine ⟨_, _, _, rfl, Same.mut (Same.trans e4 (Same.trans e46 e7)) nnl0, ?_⟩
      rw [upd_same, List.take_succ, hz, List.map_append, List.map_append]
      rfl
    · rintro σ' H' ⟨u2, u3, u4, rfl, e, _⟩
      exact k H' e
/-- what may be shown -/
def spPairS : Sp := fun vs H Q _ => ∃ (a : Addr) (wy nm : Str), vs = [.ref a] ∧ SeqAt H a [.str wy, .str nm] ∧ wy ∈ ways ∧ isW nm = true ∧ ∀ H', Same H H' → Q (.bl true) H'
abbrev s_is_pair_shown : Stmt := top 18
theorem sc_is_pair_shown : FnScope ["show"] ["show"] (defScope s_is_pair_shown) := ⟨rfl, rfl, rfl, by decide +kernel, rfl, by decide +kernel, by decide +kernel⟩
theorem ok_pair_shown {C0 W0 fR fI : Addr} {fdR fdI : FuncData} {tM : Tok} (F : L2.Fun K "is_pair_shown" "is_pair_shown" s_is_pair_shown f fd) (T : Blt mg) (T' : RlCst mg C0 W0 tM) (hW : ∀ H, SqT K H W0 (ways.map V.str)) (D_is_row : DefOk P w K mg base 1 "is_row" fR fdR ["x"] spIsRow) (D_is_word : DefOk P w K mg base 1 "is_word" fI fdI ["x"] spIsWord) :
    FnOk P w K mg base CX0 2 f fd ["show"] spPairS := by
  refine F.ok sc_is_pair_shown (fun vs H Q E h => ?_) (fun cdv A outer s H vs Q E hr h => ?_)
  · obtain ⟨a, wy, nm, rfl, _⟩ := h
    rfl
  · obtain ⟨a, wy, nm, rfl, ha, hw, hn, k⟩ := h
    refine ⟨_, (pss_one (ps_ret (pe_and (pe_d D_is_row (hr.mono (by decide)) (pa_cons (pv 0) pa_nil)) (pe_and (pe_cmpR op_eq (pe_callB call_len_seq (by rfl) T.b_len PySem.boot_len (pa_cons (pv 0) pa_nil)) pe_int (nomark _)) (pe_and (pe_cmpR op_in_seq (pe_ix ix_seq (pv 0) pe_int (fun _ _ => rfl)) (pe_glob (v := .ref W0) rfl T'.g_WAYS rfl) (by rfl)) (pe_one (pe_d D_is_word (hr.mono (by decide)) (pa_cons (pe_ix ix_seq (pv 0) pe_int (fun _ _ => rfl)) pa_nil)))))))), ?_⟩
    have isr : Ev (tCall spIsRow [] E0 (tCons (tVar 0) tNil)) [some (.ref a)] H (.bl true) := fun H1 e1 Q q => ⟨_, rfl, a, _, rfl, seq_same ha e1, fun H2 e2 => q H2 e2⟩
    have ix : ∀ {H1 : Hp} (i : Nat) (v : V), Ex H H1 → ([.str wy, .str nm] : List V)[i]? = some v → Ev (tOp (rIx K) (tVar 0) (tC (.int (i : Nat)))) [some (.ref a)] H1 v := fun i v e h => ev_op (ev_var rfl) ev_c (rv_ixQ1 (seq_same ha e) h)
    have inw : Ev (tOp (rIn K false) (tOp (rIx K) (tVar 0) (tC (.int 0))) (tC (.ref W0))) [some (.ref a)] H (.bl true) := fun H1 e1 Q q => ix 0 _ e1 rfl H1 (Ex.refl _) _ fun H2 e2 => ⟨W0, ways.map V.str, rfl, .inr (hW H2), rfl, strs_flat1 _, by
      show Q (.bl (inV (.str wy) (ways.map V.str))) H2
      rw [strs_in1, decide_eq_true hw]
      exact q H2 e2⟩
    have isw : Ev (tCall spIsWord [] E0 (tCons (tOp (rIx K) (tVar 0) (tC (.int 1))) tNil)) [some (.ref a)] H (.bl true) := fun H1 e1 Q q => ix 1 _ e1 rfl H1 (Ex.refl _) _ fun H2 e2 => ⟨nm, rfl, isW_sz hn, fun H3 e3 => by rw [hn]; exact q H3 (Ex.trans e2 e3)⟩
    exact s_ret (ev_andV isr fun _ => ev_andV (ev_is (ev_op (ev_lenQ1 (ev_var rfl) ha) ev_c (rv_eq rfl)) rfl) fun _ => ev_andV inw fun _ => isw) fun H1 e1 => k H1 e1
end
end Lm

namespace Lm
open PySem L2 Evl RZ
def rTupOf (K : PySem.W.Frag) : List V → Hp → VK → Prop := fun xs H Q => ∃ p ys, xs = [.ref p] ∧ ((SqL K H p ys ∧ ∀ l, H l = none → Q (.ref l) (upd H l (.tup ys))) ∨ (SqT K H p ys ∧ Q (.ref p) H))
/-- rows of texts, with where they stand -/
def RowsZ (H : Hp) (xs : List V) (l : List (Addr × Str × List Str)) : Prop := xs = l.map (fun z => V.ref z.1) ∧ ∀ z ∈ l, SeqAt H z.1 ((z.2.1 :: z.2.2).map V.str)
def fsOf (l : List (Addr × Str × List Str)) : List (Str × List Str) := l.map fun z => z.2
theorem RowsZ.same {H H' : Hp} {xs : List V} {l : List (Addr × Str × List Str)} (h : RowsZ H xs l) (e : Same H H') : RowsZ H' xs l := ⟨h.1, fun z hz => seq_same (h.2 z hz) e⟩
theorem RowsZ.f {H : Hp} {xs : List V} {l : List (Addr × Str × List Str)} (h : RowsZ H xs l) : RowsF H xs (fsOf l) := ⟨by rw [h.1]; unfold fsOf; rw [List.length_map, List.length_map], fun i z hz => by
  unfold fsOf at hz
  rw [List.getElem?_map] at hz
  cases hi : l[i]? with
  | none => rw [hi] at hz; cases hz
  | some y =>
    rw [hi] at hz
    cases hz
    exact ⟨y.1, by rw [h.1, List.getElem?_map, hi]; rfl, h.2 y (List.mem_of_getElem? hi)⟩⟩
section
variable {K : PySem.W.Frag} {σ : L2.St} {H : Hp} {te tl : TE}
theorem el_mapS {α : Type} {l : List α} {f g : α → V} {j : Nat} {a : Addr} (h : Ev tl σ H (.ref a)) (ha : SeqAt H a (l.map f)) (hz : l.length ≤ 40000) (he : ∀ x ∈ l, ∀ H1, Ex H H1 → Ev te ((wipe σ [j]).set j (some (f x))) H1 (g x)) :
    EvL (tLc (fun σ H R => iList K tl σ H R ∨ iTup K tl σ H R) (gName j) tYes te [j]) σ H (l.map g) := fun H1 e Q q => ha.elim (fun x => .inl (el_mapL (K := K) h x hz he H1 e Q q)) fun x => .inr (el_mapT (K := K) h x hz he H1 e Q q)
/-- what is there behind i turns -/
def TpW (H : Hp) (l : List (Addr × Str × List Str)) (D : Addr) (i : Nat) (H' : Hp) : Prop := Ex H H' ∧ ∃ ts : List Addr, H' D = some (.lst (ts.map V.ref)) ∧ ts.length = i ∧ ∀ (j : Nat) z t, l[j]? = some z → ts[j]? = some t → H' t = some (.tup ((z.2.1 :: z.2.2).map V.str))
theorem go_tups {a : Addr} {xs : List V} {l : List (Addr × Str × List Str)} {i0 j : Nat} {Q : VK} (h : σ[i0]? = some (some (.ref a))) (ha : SeqAt H a xs) (hR : RowsZ H xs l) (hl : l.length ≤ 900) (hj : ∀ v, ((wipe σ [j]).set j (some v))[j]? = some (some v))
    (k : ∀ D (ts : List Addr) (H' : Hp), H D = none → Ex H H' → H' D = some (.lst (ts.map V.ref)) → ts.length = l.length → (∀ (j : Nat) z t, l[j]? = some z → ts[j]? = some t → H' t = some (.tup ((z.2.1 :: z.2.2).map V.str))) → Q (.ref D) H') :
    tLc (fun σ H R => iList K (tVar i0) σ H R ∨ iTup K (tVar i0) σ H R) (gName j) tYes (tCB (rTupOf K) (tCons (tVar j) tNil)) [j] σ H Q := by
  have lx : xs.length = l.length := by rw [hR.1, List.length_map]
  have turn : ∀ (D : Addr), H D = none → ∀ (i : Nat) (x : V) (H' : Hp), xs[i]? = some x → TpW H l D i H' → wipe ((wipe σ [j]).set j (some x)) [j] = wipe σ [j] ∧ tYes ((wipe σ [j]).set j (some x)) H' fun b H3 => if b = true then tCB (rTupOf K) (tCons (tVar j) tNil) ((wipe σ [j]).set j (some x)) H3 fun y H4 => ∃ acc, H4 D = some (.lst acc) ∧ acc.length < sizeLine ∧ TpW H l D (i + 1) (upd H4 D (.lst (acc ++ [y]))) else TpW H l D (i + 1) H3 := by
    rintro D hD i x H' hx ⟨e, ts, h1, h2, h3⟩
    rw [hR.1] at hx
    obtain ⟨z, hz, rfl⟩ := map_inv1 hx
    have hi := (List.getElem?_eq_some_iff.mp hz).1
    have hs := seq_same (hR.2 z (List.mem_of_getElem? hz)) e
    refine ⟨wipe1 _ j _, ?_⟩
    unfold tYes
    dsimp only
    rw [if_pos rfl]
    have step : ∀ (t : Addr) (H4 : Hp), Ex H' H4 → t ≠ D → H4 t = some (.tup ((z.2.1 :: z.2.2).map V.str)) → ∃ acc, H4 D = some (.lst acc) ∧ acc.length < sizeLine ∧ TpW H l D (i + 1) (upd H4 D (.lst (acc ++ [.ref t]))) := fun t H4 e4 htD ht => by
      refine ⟨_, e4 _ _ h1, small1000 (by rw [List.length_map]; omega), Ex.mut (Ex.trans e e4) hD, ts ++ [t], ?_, by simp [h2], fun m y u q1 q2 => ?_⟩
      · rw [upd_same, List.map_append]
        rfl
      · rcases Nat.lt_or_ge m ts.length with q | q
        · rw [List.getElem?_append_left q] at q2
          have h4 := h3 m y u q1 q2
          rw [upd_ne (ne_of h4 h1 (by intro z; cases z))]
          exact e4 _ _ h4
        · rw [List.getElem?_append_right q] at q2
          have hm : m = i := by
            have := (List.getElem?_eq_some_iff.mp q2).1
            simp at this
            omega
          subst hm
          rw [h2, Nat.sub_self] at q2
          cases q2
          rw [hz] at q1
          cases q1
          rw [upd_ne htD]
          exact ht
    rcases hs with hs | hs
    · exact ⟨_, hj _, z.1, _, rfl, .inl ⟨SqL.of hs, fun n nn => step n _ (Ex.new nn) (ne_of_none h1 nn).symm upd_same⟩⟩
    · exact ⟨_, hj _, z.1, _, rfl, .inr ⟨SqT.of hs, step z.1 _ (Ex.refl _) (ne_of hs h1 (by intro z; cases z)) hs⟩⟩
  have fin : ∀ (D : Addr), H D = none → ∀ H', TpW H l D xs.length H' → Q (.ref D) H' := fun D hD H' ⟨e, ts, h1, h2, h3⟩ => k D ts H' hD e h1 (by rw [h2, lx]) h3
  rcases ha with ha | ha
  · exact .inl ⟨_, h, a, rfl, ⟨_, SqL.of ha⟩, fun D hD => lc_list (K := K) (xs := xs) (TpW H l D) ⟨Ex.new hD, [], upd_same, rfl, fun j z t q1 q2 => by simp at q2⟩ (fun i H' _ p => SqL.of (p.1 _ _ ha)) (fun i x H' hx p => turn D hD i x H' hx p) (fun H' p => fin D hD H' p)⟩
  · exact .inr ⟨_, h, a, rfl, ⟨_, SqT.of ha⟩, fun D hD => lc_tup (K := K) (xs := xs) (TpW H l D) ⟨Ex.new hD, [], upd_same, rfl, fun j z t q1 q2 => by simp at q2⟩ (fun i H' _ p => SqT.of (p.1 _ _ ha)) (fun i x H' hx p => turn D hD i x H' hx p) (fun H' p => fin D hD H' p)⟩
end
end Lm

namespace Lm
open PySem L2 Evl RZ
/-! ### a rule as it stands in the heap -/
def q1 (t : Addr) : List (Str × V) := [("rows", .ref t)]
def q2 (t : Addr) (wy : Str) : List (Str × V) := [("rows", .ref t), ("way", .str wy)]
def rlF (t : Addr) (wy : Str) (at_ : Nat) : List (Str × V) := [("rows", .ref t), ("way", .str wy), ("at", .int (at_ : Nat))]
theorem r_1 : (("way" : Str) == "rows") = false := by decide +kernel
theorem r_2 : (("at" : Str) == "rows") = false := by decide +kernel
theorem r_3 : (("at" : Str) == "way") = false := by decide +kernel
theorem ne_b1 {a b : Str} (h : (a == b) = false) : ¬ (b = a) := fun z => by rw [z] at h; simp at h
theorem put_r1 (t : Addr) : putF "rows" (.ref t) [] = q1 t := rfl
theorem put_r2 (t : Addr) (wy : Str) : putF "way" (.str wy) (q1 t) = q2 t wy := by simp [putF, q1, q2, ne_b1 r_1]
theorem put_r3 (t : Addr) (wy : Str) (at_ : Nat) : putF "at" (.int (at_ : Nat)) (q2 t wy) = rlF t wy at_ := by simp [putF, q2, rlF, ne_b1 r_2, ne_b1 r_3]
theorem rl_rows (t : Addr) (wy : Str) (i : Nat) : (rlF t wy i).lookup ("rows" : Str) = some (.ref t) := by simp [rlF, List.lookup]
theorem rl_way (t : Addr) (wy : Str) (i : Nat) : (rlF t wy i).lookup ("way" : Str) = some (.str wy) := by simp [rlF, List.lookup, r_1]
theorem rl_at (t : Addr) (wy : Str) (i : Nat) : (rlF t wy i).lookup ("at" : Str) = some (.int (i : Nat)) := by simp [rlF, List.lookup, r_2, r_3]
theorem rl_no (t : Addr) (wy : Str) (i : Nat) {m : Str} (h1 : (m == "rows") = false) (h2 : (m == "way") = false) (h3 : (m == "at") = false) : (rlF t wy i).lookup m = none := by simp [rlF, List.lookup, h1, h2, h3]
/-- the rule with the rows fs that shows by the way wy the field i, at a -/
structure RlAt (CR : Addr) (H : Hp) (a : Addr) (fs : List (Str × List Str)) (wy : Str) (i : Nat) : Prop where
  ob : ∃ dx t, ∃ ts : List Addr, H a = some (.ins CR dx (rlF t wy i)) ∧ H t = some (.tup (ts.map V.ref)) ∧ ts.length = fs.length ∧ ∀ (j : Nat) z u, fs[j]? = some z → ts[j]? = some u → H u = some (.tup ((z.1 :: z.2).map V.str))
  ok : FsOk fs
  wy : wy ∈ ways
  at_ : i < fs.length
theorem RlAt.same {CR : Addr} {H H' : Hp} {a : Addr} {fs : List (Str × List Str)} {wy : Str} {i : Nat} (k : RlAt CR H a fs wy i) (e : Same H H') : RlAt CR H' a fs wy i := by
  obtain ⟨⟨dx, t, ts, h1, h2, h3, h4⟩, h5, h6, h7⟩ := k
  exact ⟨⟨dx, t, ts, e _ _ h1, e _ _ h2, h3, fun j z u p q => e _ _ (h4 j z u p q)⟩, h5, h6, h7⟩
structure RlTxt (K : PySem.W.Frag) (C : Addr) : Prop where
  cl : Cls K C
  nR : NoAttr K C "rows"
  nW : NoAttr K C "way"
  nA : NoAttr K C "at"
section
variable {P : Program} {w : World} {K : PySem.W.Frag} {mg : Str → Option Value} {base : Heap} {f : Addr} {fd : FuncData}
def spRlInit (CR : Addr) : Sp := fun vs H Q _ => ∃ (p dx a b : Addr) (xs : List V) (l : List (Addr × Str × List Str)) (wy nm : Str) (i : Nat) (H0 : Hp), vs = [.ref p, .ref a, .ref b] ∧ H p = some (.ins CR dx []) ∧ H0 p = none ∧ Same H0 H ∧ SeqAt H0 a xs ∧ RowsZ H0 xs l ∧ FsOk (fsOf l) ∧ SeqAt H0 b [.str wy, .str nm] ∧ wy ∈ ways ∧ ((fsOf l).map fun z => z.1)[i]? = some nm ∧
  ∀ H', RlAt CR H' p (fsOf l) wy i → Kp p H H' → Q .non H'
abbrev s_Rule_init : Stmt := inClass (top 15) 0
theorem sc_Rule_init : FnScope ["self", "fields", "show", "names", "field"] ["self", "fields", "show"] (defScope s_Rule_init) := ⟨rfl, rfl, rfl, by decide +kernel, rfl, by decide +kernel, by decide +kernel⟩
theorem sq_fldB {rd : List V → Hp → VK → Prop} {tl ta : TE} {fn : Str} {tz : TS} {D : Ends} {σ : L2.St} {H : Hp} (h : tl σ H fun v H1 => rd [v] H1 fun y H2 => sFld K ta (tC y) fn { D with nx := tz D } σ H2) : tSeq (sFld K ta (tCB rd (tCons tl tNil)) fn) tz D σ H := h
theorem Same.kpi1 {H0 H H' : Hp} {p : Addr} (np : H0 p = none) (e : Same H0 H) (k : Kp p H H') : Same H0 H' := fun b o h => k b o (ne_of_none h np) (e b o h)
theorem ok_rl_init {CR fR fS : Addr} {fdR fdS : FuncData} (F : L2.Fun K "__init__" "Rule.__init__" s_Rule_init f fd) (T : Blt mg) (W : RlTxt K CR) (D_require_fields : DefOk P w K mg base 3 "require_fields" fR fdR ["fields"] spReqFields) (D_is_pair_shown : DefOk P w K mg base 2 "is_pair_shown" fS fdS ["show"] spPairS) :
    FnOk P w K mg base CX0 4 f fd ["self", "fields", "show"] (spRlInit CR) := by
  refine F.ok sc_Rule_init (fun vs H Q E h => ?_) (fun cdv A outer s H vs Q E hr h => ?_)
  · obtain ⟨p, dx, a, b, xs, l, wy, nm, i, H0, rfl, _⟩ := h
    rfl
  · obtain ⟨p, dx, a, b, xs, l, wy, nm, i, H0, rfl, hp, np, e0, ha, hR, hf, hb, hw, hi, k⟩ := h
    refine ⟨_, (pss_cons (ps_expr (pe_d D_require_fields (hr.mono (by decide)) (pa_cons (pv 1) pa_nil)))
        (pss_cons (ps_setLc (i := 3) (own := [("field", 4)]) (g := gName 4) (tt := tYes) (te := (tOp (rIx K) (tVar 4) (tC (.int 0)))) rfl sc_Rule_init.nd rfl rfl (sw_true rfl rfl rfl (by decide +kernel)) (pi_or (pi_list (pv 1)) (pi_tup (pv 1))) (blkOk_by (own := [("field", 4)]) (by kernel_rfl)) (fun _ _ _ _ _ => (pg_name (i := 4) sc_Rule_init.nd rfl (by first | exact Or.inl rfl | exact Or.inr rfl))) (fun _ _ _ _ _ => pts_nil) (fun _ _ _ _ _ => by exact (pe_ix ix_seq (pv 4) pe_int (fun _ _ => rfl))))
        (pss_cons (ps_if (PW.pt (pw_or (pt_not (pt_val (pe_d D_is_pair_shown (hr.mono (by decide)) (pa_cons (pv 2) pa_nil)))) (pw_or1 (pt_cmpR op_notIn_seq (pe_ix ix_seq (pv 2) pe_int (fun _ _ => rfl)) (pv 3) (by rfl))))) (pss_one ps_never) pss_nil)
        (pss_cons (ps_fld (pv 0) (pe_callTy call_tuple_of (by rfl) T.b_tuple (by decide +kernel) (by exact (pa_cons (pe_lc (own := [("field", 4)]) (g := gName 4) (tt := tYes) (te := (tCB (rTupOf K) (tCons (tVar 4) tNil))) rfl sc_Rule_init.nd (pi_or (pi_list (pv 1)) (pi_tup (pv 1))) (blkOk_by (own := [("field", 4)]) (by kernel_rfl)) (fun _ _ _ _ _ => (pg_name (i := 4) sc_Rule_init.nd rfl (by first | exact Or.inl rfl | exact Or.inr rfl))) (fun _ _ _ _ _ => pts_nil) (fun _ _ _ _ _ => by exact (pe_callTy call_tuple_of (by rfl) T.b_tuple (by decide +kernel) (pa_cons (pv 4) pa_nil)))) pa_nil))) rfl)
        (pss_cons (ps_fld (pv 0) (pe_ix ix_seq (pv 2) pe_int (fun _ _ => rfl)) rfl)
        (pss_one (ps_fld (pv 0) (pe_bm PySem.F.plainAttrs_list PySem.F.slot_list_index PySem.F.type_list_index mt_index (pv 3) (pa_cons (pe_ix ix_seq (pv 2) pe_int (fun _ _ => rfl)) pa_nil)) rfl))))))), ?_⟩
    have l3 := hf.l3
    have ll : (fsOf l).length = l.length := by unfold fsOf; rw [List.length_map]
    have hil : i < (fsOf l).length := by have := (List.getElem?_eq_some_iff.mp hi).1; rwa [List.length_map] at this
    have nmW : isW nm = true := by
      obtain ⟨z, hz, hn⟩ := List.mem_map.mp (List.mem_of_getElem? hi)
      rw [← hn]
      exact (hf.ok z hz).wd
    refine ⟨_, rfl, a, xs, fsOf l, rfl, seq_same ha e0, (hR.same e0).f, hf, fun H1 e1 => ?_⟩
    have e01 := Same.trans e0 e1
    have ha1 := seq_same ha e01
    rw [hR.1] at ha1
    dsimp only [L2.start]
    refine q_asgL (xs := (((fsOf l).map fun z => z.1).map V.str)) ?_ fun nl H2 nnl e2 hnl => ?_
    · have := el_mapS (K := K) (σ := [some (.ref p), some (.ref a), some (.ref b), none, none]) (H := H1) (te := (tOp (rIx K) (tVar 4) (tC (.int 0)))) (tl := tVar 1) (l := l) (f := fun z => V.ref z.1) (g := fun z => V.str z.2.1) (j := 4) (ev_var rfl) ha1 (by omega) fun x hx H2 e2 => ev_op (ev_var rfl) ev_c (rv_ixQ1 (n := 0) (seq_same (hR.2 x hx) (Same.trans e01 e2)) rfl)
      unfold fsOf
      rw [List.map_map, List.map_map]
      exact this
    have e02 := Same.trans e01 e2
    have isr : Ev (tCall spPairS [] E0 (tCons (tVar 2) tNil)) [some (.ref p), some (.ref a), some (.ref b), some (.ref nl), none] H2 (.bl true) := fun H3 e3 Q q => ⟨_, rfl, b, wy, nm, rfl, seq_same hb (Same.trans e02 e3), hw, nmW, fun H' e => q H' e⟩
    have inn : Ev (tOp (rIn K true) (tOp (rIx K) (tVar 2) (tC (.int 1))) (tVar 3)) [some (.ref p), some (.ref a), some (.ref b), some (.ref nl), none] H2 (.bl false) := ev_is (ev_op (ev_op (ev_var rfl) ev_c (rv_ixQ1 (n := 1) (seq_same hb e02) rfl)) (ev_var rfl) (rv_inL (neg := true) (sq_of hnl) rfl (strs_flat1 _))) (by
      rw [strs_in1, decide_eq_true (List.mem_of_getElem? hi)]
      rfl)
    refine q_when (b := false) (et_is (et_or (et_not (et_B isr)) fun _ => et_test inn) rfl) (fun z => nomatch z) fun _ H3 e3 => ?_
    have e03 := Same.trans e02 e3
    refine sq_fldB (go_tups (K := K) (σ := [some (.ref p), some (.ref a), some (.ref b), some (.ref nl), none]) (i0 := 1) (j := 4) rfl (seq_same ha e03) (hR.same e03) (by omega) (fun v => rfl) fun D ts H4 nD e4 hD lt ht => ?_)
    have e04 := Same.trans e03 e4
    refine ⟨D, _, rfl, .inl ⟨SqL.of hD, fun t nt => ?_⟩⟩
    have e14 : Same H H4 := Same.trans e1 (Same.trans e2 (Same.trans e3 e4))
    have hp4 := e14 _ _ hp
    have hnl4 := Same.trans e3 e4 _ _ hnl
    have htp : t ≠ p := (ne_of_none hp4 nt).symm
    have hln : nl ≠ p := ne_of hnl4 hp4 (by intro z; cases z)
    have et := Same.upd' nt (o := .tup (ts.map V.ref))
    refine ⟨_, rfl, p, CR, dx, _, rfl, et _ _ hp4, W.cl, W.nR, by decide, ?_⟩
    rw [put_r1]
    have k5 : Kp p H (upd (upd H4 t (.tup (ts.map V.ref))) p (.ins CR dx (q1 t))) := (Kp.of (Same.trans e14 et)).trans (Kp.upd _ _ _)
    have n5 : (upd (upd H4 t (.tup (ts.map V.ref))) p (.ins CR dx (q1 t))) nl = some (.lst (((fsOf l).map fun z => z.1).map V.str)) := by
      rw [upd_ne hln]
      exact et _ _ hnl4
    have t5 : (upd (upd H4 t (.tup (ts.map V.ref))) p (.ins CR dx (q1 t))) t = some (.tup (ts.map V.ref)) := by rw [upd_ne htp, upd_same]
    have u5 : ∀ (j : Nat) z u, (fsOf l)[j]? = some z → ts[j]? = some u → (upd (upd H4 t (.tup (ts.map V.ref))) p (.ins CR dx (q1 t))) u = some (.tup ((z.1 :: z.2).map V.str)) := fun j z u q1' q2' => by
      unfold fsOf at q1'
      rw [List.getElem?_map] at q1'
      cases hj : l[j]? with
      | none => rw [hj] at q1'; cases q1'
      | some y =>
        rw [hj] at q1'
        cases q1'
        have h4 := ht j y u hj q2'
        rw [upd_ne (ne_of h4 hp4 (by intro z; cases z))]
        exact et _ _ h4
    have p5 : (upd (upd H4 t (.tup (ts.map V.ref))) p (.ins CR dx (q1 t))) p = some (.ins CR dx (q1 t)) := upd_same
    generalize upd (upd H4 t (.tup (ts.map V.ref))) p (.ins CR dx (q1 t)) = H5 at k5 n5 t5 u5 p5 ⊢
    refine (ev_op (ev_var rfl) ev_c (rv_ixQ1 (n := 0) (seq_same hb (Same.kpi1 np e0 k5)) rfl)) H5 (Ex.refl _) _ fun H6 e6 => ?_
    refine ⟨_, rfl, p, CR, dx, _, rfl, e6 _ _ p5, W.cl, W.nW, (by show 1 < 1000; decide), ?_⟩
    rw [put_r2]
    have k6 : Kp p H (upd H6 p (.ins CR dx (q2 t wy))) := (k5.trans (Kp.of e6)).trans (Kp.upd _ _ _)
    have n6 : (upd H6 p (.ins CR dx (q2 t wy))) nl = some (.lst (((fsOf l).map fun z => z.1).map V.str)) := by
      rw [upd_ne hln]
      exact e6 _ _ n5
    have t6 : (upd H6 p (.ins CR dx (q2 t wy))) t = some (.tup (ts.map V.ref)) := by
      rw [upd_ne htp]
      exact e6 _ _ t5
    have u6 : ∀ (j : Nat) z u, (fsOf l)[j]? = some z → ts[j]? = some u → (upd H6 p (.ins CR dx (q2 t wy))) u = some (.tup ((z.1 :: z.2).map V.str)) := fun j z u a1 a2 => by
      have h5 := u5 j z u a1 a2
      rw [upd_ne (ne_of h5 p5 (by intro z; cases z))]
      exact e6 _ _ h5
    have p6 : (upd H6 p (.ins CR dx (q2 t wy))) p = some (.ins CR dx (q2 t wy)) := upd_same
    generalize upd H6 p (.ins CR dx (q2 t wy)) = H7 at k6 n6 t6 u6 p6 ⊢
    refine ⟨_, rfl, .inl ⟨rfl, _, sq_of n6⟩, (ev_op (ev_var rfl) ev_c (rv_ixQ1 (n := 1) (seq_same hb (Same.kpi1 np e0 k6)) rfl)) H7 (Ex.refl _) _ fun H8 e8 => ?_⟩
    refine ⟨nl, _, .str nm, i, .str nm, rfl, rfl, SqL.of (e8 _ _ n6), rfl, strs_flat1 _, by rw [List.getElem?_map, hi]; rfl, (by show (nm == nm) = true; simp), fun m z' hm hz' => ?_, ?_⟩
    · obtain ⟨y, hy, rfl⟩ := map_inv1 hz'
      show (y == nm) = false
      have h1 := (List.getElem?_eq_some_iff.mp hy)
      have h2 := (List.getElem?_eq_some_iff.mp hi)
      obtain ⟨h11, h12⟩ := h1
      obtain ⟨h21, h22⟩ := h2
      have := List.pairwise_iff_getElem.mp hf.nd m i h11 h21 hm
      rw [h12, h22] at this
      simpa using this
    · refine ⟨_, rfl, p, CR, dx, _, rfl, e8 _ _ p6, W.cl, W.nA, (by show 2 < 1000; decide), ?_⟩
      rw [put_r3]
      refine k _ ⟨⟨dx, t, ts, upd_same, ?_, by rw [lt, ll], fun j z u a1 a2 => ?_⟩, hf, hw, hil⟩ ((k6.trans (Kp.of e8)).trans (Kp.upd _ _ _))
      · rw [upd_ne htp]
        exact e8 _ _ t6
      · have h7 := u6 j z u a1 a2
        rw [upd_ne (ne_of h7 p6 (by intro z; cases z))]
        exact e8 _ _ h7
end
end Lm

namespace Lm
open PySem L2 Evl RZ
/-- rows that are tuples of texts -/
def RowsT (H : Hp) (xs : List V) (fs : List (Str × List Str)) : Prop := ∃ ts : List Addr, xs = ts.map V.ref ∧ ts.length = fs.length ∧ ∀ (j : Nat) z u, fs[j]? = some z → ts[j]? = some u → H u = some (.tup ((z.1 :: z.2).map V.str))
theorem RowsT.same {H H' : Hp} {xs : List V} {fs : List (Str × List Str)} (h : RowsT H xs fs) (e : Same H H') : RowsT H' xs fs := by
  obtain ⟨ts, h1, h2, h3⟩ := h
  exact ⟨ts, h1, h2, fun j z u p q => e _ _ (h3 j z u p q)⟩
theorem RowsT.get {H : Hp} {xs : List V} {fs : List (Str × List Str)} (h : RowsT H xs fs) {i : Nat} {z : Str × List Str} (hz : fs[i]? = some z) : ∃ u, xs[i]? = some (.ref u) ∧ H u = some (.tup ((z.1 :: z.2).map V.str)) := by
  obtain ⟨ts, rfl, h2, h3⟩ := h
  have hi := (List.getElem?_eq_some_iff.mp hz).1
  have hu : ts[i]? = some ts[i] := List.getElem?_eq_getElem (by omega)
  exact ⟨ts[i], by rw [List.getElem?_map, hu]; rfl, h3 i z _ hz hu⟩
theorem atI_n1 {xs : List V} {n : Nat} {v : V} (h : xs[n]? = some v) : atI xs (n : Nat) = some v := by
  have hn := (List.getElem?_eq_some_iff.mp h).1
  unfold atI
  rw [ixN_nat hn]
  exact h
theorem ev_fld1 {K : PySem.W.Frag} {σ : L2.St} {H : Hp} {te : TE} {a C dx : Addr} {fs : List (Str × V)} {f : Str} {v : V} (h : Ev te σ H (.ref a)) (ha : H a = some (.ins C dx fs)) (cl : Cls K C) (n : NoAttr K C f) (hf : fs.lookup f = some v) : Ev (tFld K te f) σ H v := fun H1 e Q q =>
  h H1 e _ fun H2 e2 => ⟨a, C, dx, fs, v, rfl, Ex.trans e e2 _ _ ha, cl, n, hf, q H2 e2⟩
section
variable {P : Program} {w : World} {K : PySem.W.Frag} {mg : Str → Option Value} {base : Heap} {f : Addr} {fd : FuncData}
def spRlFields (CR : Addr) : Sp := fun vs H Q _ => ∃ (a : Addr) (fs : List (Str × List Str)) (wy : Str) (i : Nat), vs = [.ref a] ∧ RlAt CR H a fs wy i ∧ ∀ p xs H', H p = none → Same H H' → H' p = some (.lst xs) → RowsT H' xs fs → Q (.ref p) H'
abbrev s_Rule_fields : Stmt := inClass (top 15) 1
theorem sc_Rule_fields : FnScope ["self"] ["self"] (defScope s_Rule_fields) := ⟨rfl, rfl, rfl, by decide +kernel, rfl, by decide +kernel, by decide +kernel⟩
theorem ok_rl_fields {CR : Addr} (F : L2.Fun K "fields" "Rule.fields" s_Rule_fields f fd) (T : Blt mg) (W : RlTxt K CR) : FnOk P w K mg base CX0 1 f fd ["self"] (spRlFields CR) := by
  refine F.ok sc_Rule_fields (fun vs H Q E h => ?_) (fun cdv A outer s H vs Q E hr h => ?_)
  · obtain ⟨a, fs, wy, i, rfl, _⟩ := h
    rfl
  · obtain ⟨a, fs, wy, i, rfl, ⟨⟨dx, t, ts, h1, h2, h3, h4⟩, h5, h6, h7⟩, k⟩ := h
    refine ⟨_, (pss_one (ps_ret (pe_callTy call_list_of (by rfl) T.b_list (by decide +kernel) (pa_cons (pe_fld (pv 0) rfl) pa_nil)))), ?_⟩
    refine ⟨_, rfl, a, CR, dx, _, _, rfl, h1, W.cl, W.nR, rl_rows _ _ _, ?_⟩
    refine ⟨t, _, rfl, .inr (SqT.of h2), fun p np => k p _ _ np (Same.upd' np) upd_same ⟨ts, rfl, h3, fun j z u p q => Same.upd' np _ _ (h4 j z u p q)⟩⟩
def spRlShow (CR : Addr) : Sp := fun vs H Q _ => ∃ (a : Addr) (fs : List (Str × List Str)) (wy : Str) (i : Nat), vs = [.ref a] ∧ RlAt CR H a fs wy i ∧ ∀ p nm H', (fs.map fun z => z.1)[i]? = some nm → H p = none → Same H H' → H' p = some (.tup [.str wy, .str nm]) → Q (.ref p) H'
abbrev s_Rule_show : Stmt := inClass (top 15) 2
theorem sc_Rule_show : FnScope ["self"] ["self"] (defScope s_Rule_show) := ⟨rfl, rfl, rfl, by decide +kernel, rfl, by decide +kernel, by decide +kernel⟩
theorem ok_rl_show {CR : Addr} (F : L2.Fun K "show" "Rule.show" s_Rule_show f fd) (T : Blt mg) (W : RlTxt K CR) : FnOk P w K mg base CX0 1 f fd ["self"] (spRlShow CR) := by
  refine F.ok sc_Rule_show (fun vs H Q E h => ?_) (fun cdv A outer s H vs Q E hr h => ?_)
  · obtain ⟨a, fs, wy, i, rfl, _⟩ := h
    rfl
  · obtain ⟨a, fs, wy, i, rfl, ⟨⟨dx, t, ts, h1, h2, h3, h4⟩, h5, h6, h7⟩, k⟩ := h
    refine ⟨_, (pss_one (ps_ret (pe_tup (pa_cons (pe_fld (pv 0) rfl) (pa_cons (pe_ix ix_tup (pe_ix ix_tup (pe_fld (pv 0) rfl) (pe_fld (pv 0) rfl) (fun _ _ => rfl)) pe_int (fun _ _ => rfl)) pa_nil))))), ?_⟩
    have hz : fs[i]? = some fs[i] := List.getElem?_eq_getElem h7
    obtain ⟨u, hu, hut⟩ := RowsT.get ⟨ts, rfl, h3, h4⟩ hz
    have hnm : (fs.map fun z => z.1)[i]? = some fs[i].1 := by rw [List.getElem?_map, hz]; rfl
    generalize fs[i] = z at hz hut hnm
    have fd1 : ∀ {H1 : Hp} {n : Str} {v : V}, Ex H H1 → (rlF t wy i).lookup n = some v → NoAttr K CR n → Ev (tFld K (tVar 0) n) [some (.ref a)] H1 v := fun e h n => ev_fld1 (ev_var rfl) (e _ _ h1) W.cl n h
    refine s_retU (eu_tup (ea_cons (fd1 (Ex.refl _) (rl_way _ _ _) W.nW) (ea_cons (ev_op (ev_op (fd1 (Ex.refl _) (rl_rows _ _ _) W.nR) (fd1 (Ex.refl _) (rl_at _ _ _) W.nA) (rv_ixT (SqT.of h2) (atI_n1 hu))) ev_c (rv_ixT (SqT.of hut) (atI_n1 (n := 0) rfl))) ea_nil)) (by show 2 ≤ 100000; decide)) fun p H1 np e1 hp => ?_
    exact k p _ H1 hnm np e1 hp
end
end Lm

namespace Lm
open PySem L2 Evl RZ
section
variable {P : Program} {w : World} {K : PySem.W.Frag} {mg : Str → Option Value} {base : Heap} {f : Addr} {fd : FuncData}
theorem mkRl {CR : Addr} {H : Hp} {a b : Addr} {xs : List V} {l : List (Addr × Str × List Str)} {wy nm : Str} {i : Nat} {R : Addr → Hp → Prop} {E : XK} (ha : SeqAt H a xs) (hR : RowsZ H xs l) (hf : FsOk (fsOf l)) (hb : SeqAt H b [.str wy, .str nm]) (hw : wy ∈ ways) (hi : ((fsOf l).map fun z => z.1)[i]? = some nm)
    (k : ∀ x H', H x = none → Same H H' → RlAt CR H' x (fsOf l) wy i → R x H') :
    ∀ x dx, H x = none → H dx = none → dx ≠ x → spRlInit CR (.ref x :: ([.ref a, .ref b] ++ [])) (upd (upd H dx (.own x)) x (.ins CR dx [])) (fun v H2 => v = .non ∧ R x H2) E := by
  intro x dx nx ndx nex
  have s0 : Same H (upd (upd H dx (.own x)) x (.ins CR dx [])) := fun b o e => by
    rw [upd_ne (ne_of_none e nx), upd_ne (ne_of_none e ndx)]
    exact e
  exact ⟨x, dx, a, b, xs, l, wy, nm, i, H, rfl, upd_same, nx, s0, ha, hR, hf, hb, hw, hi, fun H' h' hk => ⟨rfl, k x H' nx (Same.kpi1 nx s0 hk) h'⟩⟩
/-- a rule that is written in the code -/
def spRlStat (CR : Addr) (fs : List (Str × List Str)) (wy : Str) (i : Nat) : Sp := fun vs H Q _ => vs = [] ∧ ∀ a H', H a = none → Same H H' → RlAt CR H' a fs wy i → Q (.ref a) H'
theorem stat_go {CR : Addr} {σ : L2.St} {H : Hp} {D : Ends} {t1 t2 : TA} {nm wy : Str} {r : List Str} (h1 : EvA t1 σ H ((nm :: r).map V.str)) (h2 : ∀ H', Ex H H' → EvA t2 σ H' [.str wy, .str nm]) (hr : r.length ≤ 100) (hf : FsOk [(nm, r)]) (hw : wy ∈ ways) (k : ∀ a H', H a = none → Same H H' → RlAt CR H' a [(nm, r)] wy 0 → D.rt (.ref a) H') :
    tRet (tMake CR (spRlInit CR) [] E0 (tCons (tLst (tCons (tTup t1) tNil)) (tCons (tTup t2) tNil))) D σ H := by
  unfold tRet tMake tCons tLst tNil
  dsimp only
  refine eu_tup h1 (by show (r.map V.str).length + 1 ≤ 100000; rw [List.length_map]; omega) H (Ex.refl _) _ fun p H1 np e1 hp => ?_
  refine ⟨sz_of (by show 1 ≤ 100000; decide), fun q nq => ?_⟩
  have e2 : Ex H1 (upd H1 q (.lst [.ref p])) := Ex.new nq
  have hq : (upd H1 q (.lst [.ref p])) q = some (.lst [.ref p]) := upd_same
  generalize upd H1 q (.lst [.ref p]) = H2 at e2 hq ⊢
  refine eu_tup (h2 H2 (Ex.trans e1 e2)) (by show 2 ≤ 100000; decide) H2 (Ex.refl _) _ fun b H3 nb e3 hb => ?_
  have e12 := Ex.trans e1 e2
  exact mkRl (l := [(p, nm, r)]) (R := fun x H' => D.rt (.ref x) H') (.inl (e3 _ _ hq)) ⟨rfl, fun z hz => by
    rw [List.mem_singleton] at hz
    subst hz
    exact .inr (e3 _ _ (e2 _ _ hp))⟩ hf (.inr hb) hw rfl fun x H' nx e hx => k x H' (fresh_back (Ex.trans e12 e3) nx) (Same.trans (Ex.trans e12 e3) e) hx
theorem fs1 {nm : Str} {r : List Str} (h : FldOk nm r) : FsOk [(nm, r)] := ⟨by show 0 < 1; decide, by show 1 ≤ 3; decide, fun z hz => by
  rw [List.mem_singleton] at hz
  subst hz
  exact h, by simp⟩
def rFar : List Str := ["raise", "no", "least", "raise", "raise", "exact"]
def rLast : List Str := ["last", "last", "least", "last", "last", "exact"]
def rLater : List Str := ["last", "last", "least", "later", "later", "exact"]
def rRow : List Str := ["row", "no", "least", "raise", "raise", "exact"]
def fldB (nm : Str) (r : List Str) : Bool := isW nm && r.length == 6 && (r.zip cols).all fun z => decide (z.1 ∈ z.2)
theorem fldB_ok {nm : Str} {r : List Str} (h : fldB nm r = true) : FldOk nm r := by
  unfold fldB at h
  rw [Bool.and_eq_true, Bool.and_eq_true] at h
  obtain ⟨⟨h1, h2⟩, h3⟩ := h
  refine ⟨h1, by simpa using h2, fun i w c hi hc => ?_⟩
  have := List.all_eq_true.mp h3 (w, c) (List.mem_of_getElem? (i := i) (by rw [List.getElem?_zip_eq_some]; exact ⟨hi, hc⟩))
  simpa using this
theorem okFar : FldOk "far" rFar := fldB_ok (by decide +kernel)
theorem okLate : FldOk "late" rLast := fldB_ok (by decide +kernel)
theorem okLater : FldOk "late" rLater := fldB_ok (by decide +kernel)
theorem okRow : FldOk "row" rRow := fldB_ok (by decide +kernel)
end
end Lm

namespace Lm
open PySem L2 Evl RZ
/-! ### rows as data -/
def dRow (z : Str × List Str) : PyData := .tuple ((z.1 :: z.2).map PyData.str)
def dRows (fs : List (Str × List Str)) : PyData := .tuple (fs.map dRow)
theorem cols_len : cols.length = 6 := by decide +kernel
theorem cols_w : ∀ c ∈ cols, ∀ w ∈ c, isW w = true := by decide +kernel
theorem fld_w {nm : Str} {r : List Str} (h : FldOk nm r) : ∀ x ∈ nm :: r, isW x = true := by
  intro x hx
  rcases List.mem_cons.mp hx with e | hx
  · rw [e]
    exact h.wd
  · obtain ⟨i, hi, rfl⟩ := List.mem_iff_getElem.mp hx
    have hl := h.len
    have hc : i < cols.length := by rw [cols_len]; omega
    exact cols_w _ (List.getElem_mem hc) _ (h.ok i _ _ (List.getElem?_eq_getElem hi) (List.getElem?_eq_getElem hc))
section
variable {K : PySem.W.Frag} {H : Hp}
theorem dpAll_rows : ∀ (fs : List (Str × List Str)) (ts : List Addr), ts.length = fs.length → (∀ (j : Nat) z u, fs[j]? = some z → ts[j]? = some u → H u = some (.tup ((z.1 :: z.2).map V.str))) → DpAll K H (ts.map V.ref) (fs.map dRow)
  | [], [], _, _ => .nil
  | [], _ :: _, h, _ => nomatch h
  | _ :: _, [], h, _ => nomatch h
  | z :: r, u :: t, h, k => .cons (.tup (SqT.of (k 0 z u rfl rfl)) (dpAll_strs _)) (dpAll_rows r t (by simpa using h) fun j z' u' h1 h2 => k (j + 1) z' u' h1 h2)
theorem eqvAll_rows : ∀ fs gs : List (Str × List Str), PyData.eqvAll (fs.map dRow) (gs.map dRow) = decide (fs = gs)
  | [], [] => rfl
  | [], _ :: _ => rfl
  | _ :: _, [] => rfl
  | z :: r, y :: t => by
    show (PyData.eqv (dRow z) (dRow y) && PyData.eqvAll (r.map dRow) (t.map dRow)) = decide (z :: r = y :: t)
    rw [eqvAll_rows r t]
    unfold dRow
    rw [eqv_strs]
    obtain ⟨a, b⟩ := z
    obtain ⟨c, d⟩ := y
    by_cases h1 : a = c <;> by_cases h2 : b = d <;> by_cases h3 : r = t <;> simp [h1, h2, h3]
theorem eqv_rows (fs gs : List (Str × List Str)) : PyData.eqv (dRows fs) (dRows gs) = decide (fs = gs) := eqvAll_rows fs gs
theorem lay_rows : ∀ fs : List (Str × List Str), (∀ z ∈ fs, FldOk z.1 z.2) → PyData.canLayAll0 (fs.map dRow) = true
  | [], _ => rfl
  | z :: r, h => by
    show (PyData.canLayAll0 ((z.1 :: z.2).map PyData.str) && PyData.canLayAll0 (r.map dRow)) = true
    rw [lay_strs _ (fld_w (h z (by simp))), lay_rows r fun y hy => h y (by simp [hy])]
    rfl
theorem depth_rows : ∀ fs : List (Str × List Str), PyData.depthAll (fs.map dRow) ≤ 1
  | [] => by show 0 ≤ 1; omega
  | z :: r => by
    show max (PyData.depthAll ((z.1 :: z.2).map PyData.str) + 1) (PyData.depthAll (r.map dRow)) ≤ 1
    rw [depth_strs]
    have := depth_rows r
    omega
theorem shaped_rows {fs : List (Str × List Str)} (h : ∀ z ∈ fs, FldOk z.1 z.2) : PySem.SeqAt.shaped (dRows fs) = true := by
  show (PyData.canLayAll0 (fs.map dRow) && decide (PyData.depthAll (fs.map dRow) + 1 ≤ 64)) = true
  rw [lay_rows fs h, decide_eq_true (by have := depth_rows fs; omega)]
  rfl
end
structure RlIsi (K : PySem.W.Frag) (mg : Str → Option Value) (C : Addr) : Prop where
  g_Rule : mg "Rule" = some (.ref C)
  ha : PySem.W.findIn K (.ref C) "__class__" = some (some (.builtin "object.__class__"))
  hn : PySem.W.specialIn K (.builtin "object.__class__") "__get__" = some (some (.builtin "getset_descriptor.__get__"))
  htk : PySem.W.takesIn K (.builtin "object.__class__") = some true
  hm : PySem.W.mroIn K C (.type "object") = some true
  ko : PySem.W.kitOne K (.ref C) (.ref C) = some true
section
variable {P : Program} {w : World} {K : PySem.W.Frag} {mg : Str → Option Value} {base : Heap} {f : Addr} {fd : FuncData}
/-- a == y: any object -/
def spRlEqA (K : PySem.W.Frag) (C : Addr) : Sp := fun vs H Q _ => ∃ (a : Addr) (y : V) (fs : List (Str × List Str)) (wy : Str) (i : Nat), vs = [.ref a, y] ∧ RlAt C H a fs wy i ∧
  ((∃ (b : Addr) (gs : List (Str × List Str)) (wz : Str) (j : Nat), y = .ref b ∧ RlAt C H b gs wz j ∧ Q (.bl (decide (fs = gs ∧ wy = wz ∧ i = j))) H) ∨ ∃ t : Value, TyX K H y t ∧ PySem.W.kitOne K t (.ref C) = some false ∧ Q (.bl false) H)
abbrev s_Rule_eq : Stmt := inClass (top 15) 10
theorem sc_Rule_eq : FnScope ["self", "other"] ["self", "other"] (defScope s_Rule_eq) := ⟨rfl, rfl, rfl, by decide +kernel, rfl, by decide +kernel, by decide +kernel⟩
theorem ok_rl_eqA {C : Addr} (F : L2.Fun K "__eq__" "Rule.__eq__" s_Rule_eq f fd) (T : Blt mg) (W : RlTxt K C) (T' : RlIsi K mg C) : FnOk P w K mg base CX0 1 f fd ["self", "other"] (spRlEqA K C) := by
  refine F.ok sc_Rule_eq (fun vs H Q E h => ?_) (fun cdv A outer s H vs Q E hr h => ?_)
  · obtain ⟨a, y, fs, wy, i, rfl, _⟩ := h
    rfl
  · obtain ⟨a, y, fs, wy, i, rfl, ⟨⟨dx, t, ts, h1, h2, h3, h4⟩, h5, h6, h7⟩, k⟩ := h
    refine ⟨_, (pss_one (ps_ret (pe_and (pe_callB call_isi (by rfl) T.b_isinstance (by decide +kernel) (pa_cons (pv 1) (pa_cons (pe_glob (v := .ref _) rfl T'.g_Rule rfl) pa_nil))) (pe_and (pe_cmpR (op_eqD hr.units) (pe_fld (pv 0) rfl) (pe_fld (pv 1) rfl) (nomark _)) (pe_and (pe_cmpR op_eq (pe_fld (pv 0) rfl) (pe_fld (pv 1) rfl) (nomark _)) (pe_one (pe_cmpR op_eq (pe_fld (pv 0) rfl) (pe_fld (pv 1) rfl) (nomark _)))))))), ?_⟩
    rcases k with ⟨b, gs, wz, j, rfl, ⟨⟨dy, t', ts', g1, g2, g3, g4⟩, g5, g6, g7⟩, k⟩ | ⟨t', ty, hk, k⟩
    · refine ⟨_, rfl, _, _, _, _, true, rfl, .own C, .base (.ins g1 W.cl T'.ha T'.hn T'.htk T'.hm), T'.ko, true, rfl, ?_⟩
      refine ⟨_, rfl, a, C, dx, _, _, rfl, h1, W.cl, W.nR, rl_rows _ _ _, _, rfl, b, C, dy, _, _, rfl, g1, W.cl, W.nR, rl_rows _ _ _, _, _, .tup (SqT.of h2) (dpAll_rows fs ts h3 h4), .tup (SqT.of g2) (dpAll_rows gs ts' g3 g4), shaped_rows h5.ok, shaped_rows g5.ok, ?_⟩
      refine ⟨_, rfl, ite2 (fun hn => ?_) (fun hn => ?_)⟩
      · have hn : fs = gs := of_decide_eq_true ((eqv_rows fs gs).symm.trans hn)
        refine ⟨_, rfl, a, C, dx, _, _, rfl, h1, W.cl, W.nW, rl_way _ _ _, _, rfl, b, C, dy, _, _, rfl, g1, W.cl, W.nW, rl_way _ _ _, rfl, _, rfl, ite2 (fun hm => ?_) (fun hm => ?_)⟩
        · have hm : wy = wz := V.str.inj (of_decide_eq_true hm)
          refine ⟨_, rfl, a, C, dx, _, _, rfl, h1, W.cl, W.nA, rl_at _ _ _, _, rfl, b, C, dy, _, _, rfl, g1, W.cl, W.nA, rl_at _ _ _, rfl, ?_⟩
          have e : decide (fs = gs ∧ wy = wz ∧ i = j) = decide (V.int (i : Nat) = V.int (j : Nat)) := by
            by_cases q : i = j
            · simp [hn, hm, q]
            · have : ¬ V.int (i : Nat) = V.int (j : Nat) := fun z => q (by have := V.int.inj z; omega)
              simp [hn, hm, q, this]
          rw [e] at k
          exact k
        · have hm : ¬ wy = wz := fun z => hm (decide_eq_true (congrArg V.str z))
          have e : decide (fs = gs ∧ wy = wz ∧ i = j) = false := by simp [hm]
          rw [e] at k
          exact k
      · have hn : ¬ fs = gs := fun z => hn ((eqv_rows fs gs).trans (decide_eq_true z))
        have e : decide (fs = gs ∧ wy = wz ∧ i = j) = false := by simp [hn]
        rw [e] at k
        exact k
    · exact ⟨_, rfl, y, _, _, _, false, rfl, .own C, ty, hk, false, rfl, k⟩
end
end Lm

namespace Lm
open PySem L2 Evl RZ
/-- tuples of texts -/
def TupsAt (H : Hp) (xs : List V) (cs : List (List Str)) : Prop := xs.length = cs.length ∧ ∀ (i : Nat) c, cs[i]? = some c → ∃ p : Addr, xs[i]? = some (.ref p) ∧ H p = some (.tup (c.map V.str))
theorem TupsAt.same {H H' : Hp} {xs : List V} {cs : List (List Str)} (h : TupsAt H xs cs) (e : Same H H') : TupsAt H' xs cs := ⟨h.1, fun i c hc => let ⟨p, h1, h2⟩ := h.2 i c hc; ⟨p, h1, e _ _ h2⟩⟩
theorem TupsAt.nil {H : Hp} : TupsAt H [] [] := ⟨rfl, fun i c h => nomatch h⟩
theorem TupsAt.cons {H : Hp} {p : Addr} {c : List Str} {xs : List V} {cs : List (List Str)} (h : H p = some (.tup (c.map V.str))) (k : TupsAt H xs cs) : TupsAt H (.ref p :: xs) (c :: cs) := ⟨by simp [k.1], fun i d hd => by
  cases i with
  | zero => cases hd; exact ⟨p, rfl, h⟩
  | succ i => exact k.2 i d hd⟩
theorem TupsAt.app {H : Hp} {xs ys : List V} {cs ds : List (List Str)} (h : TupsAt H xs cs) (k : TupsAt H ys ds) : TupsAt H (xs ++ ys) (cs ++ ds) := ⟨by simp [h.1, k.1], fun i d hd => by
  rcases Nat.lt_or_ge i cs.length with q | q
  · rw [List.getElem?_append_left q] at hd
    rw [List.getElem?_append_left (by rw [h.1]; exact q)]
    exact h.2 i d hd
  · rw [List.getElem?_append_right q] at hd
    rw [List.getElem?_append_right (by rw [h.1]; exact q), h.1]
    exact k.2 _ d hd⟩
def EvLT (te : TE) (σ : L2.St) (H : Hp) (cs : List (List Str)) : Prop := ∀ H1, Ex H H1 → ∀ Q : VK, (∀ p xs H2, H1 p = none → Ex H1 H2 → H2 p = some (.lst xs) → TupsAt H2 xs cs → Q (.ref p) H2) → te σ H1 Q
def EvRT (te : TE) (σ : L2.St) (H : Hp) (cs : List (List Str)) : Prop := ∀ H1, Ex H H1 → ∀ Q : VK, (∀ p xs H2, Ex H1 H2 → H2 p = some (.lst xs) → TupsAt H2 xs cs → Q (.ref p) H2) → te σ H1 Q
def EvAT (ta : TA) (σ : L2.St) (H : Hp) (cs : List (List Str)) : Prop := ∀ H1, Ex H H1 → ∀ Q : List V → Hp → Prop, (∀ xs H2, Ex H1 H2 → TupsAt H2 xs cs → Q xs H2) → ta σ H1 Q
section
variable {σ : L2.St} {H : Hp} {te tf : TE} {ta tr : TA} {c : List Str} {cs ds : List (List Str)}
theorem EvLT.r (h : EvLT te σ H cs) : EvRT te σ H cs := fun H1 e Q q => h H1 e Q fun p xs H2 _ e2 h1 h2 => q p xs H2 e2 h1 h2
theorem ert_var {p : Addr} {xs : List V} (h : Ev te σ H (.ref p)) (hp : H p = some (.lst xs)) (k : TupsAt H xs cs) : EvRT te σ H cs := fun H1 e Q q => h H1 e _ fun H2 e2 => q p xs H2 e2 (Ex.trans e e2 _ _ hp) (k.same (Ex.trans e e2))
theorem eat_nil : EvAT tNil σ H [] := fun H1 _ Q q => q [] H1 (Ex.refl _) TupsAt.nil
theorem eat_cons (h : EvU te σ H (c.map V.str)) (k : EvAT tr σ H cs) : EvAT (tCons te tr) σ H (c :: cs) := fun H1 e Q q => h H1 e _ fun p H2 _ e2 hp => k H2 (Ex.trans e e2) _ fun xs H3 e3 hx => q _ H3 (Ex.trans e2 e3) (TupsAt.cons (e3 _ _ hp) hx)
theorem elt_lst (h : EvAT ta σ H cs) (hl : cs.length ≤ 1000) : EvLT (tLst ta) σ H cs := fun H1 e Q q => h H1 e _ fun xs H2 e2 hx => ⟨sz_of (by rw [hx.1]; omega), fun p np => q p xs _ (fresh_back e2 np) (Ex.trans e2 (Ex.new np)) upd_same (hx.same (Ex.new np))⟩
theorem q_asgLT {D : Ends} {tz : TS} {i : Nat} (h : EvLT te σ H cs) (k : ∀ p xs H1, H p = none → Ex H H1 → H1 p = some (.lst xs) → TupsAt H1 xs cs → tz D (σ.set i (some (.ref p))) H1) : tSeq (tAsg te (gName i)) tz D σ H := h H (Ex.refl _) _ k
theorem s_retLT {D : Ends} (h : EvLT te σ H cs) (k : ∀ p xs H1, H p = none → Ex H H1 → H1 p = some (.lst xs) → TupsAt H1 xs cs → D.rt (.ref p) H1) : tRet te D σ H := h H (Ex.refl _) _ k
theorem elt_cat (h : EvRT te σ H cs) (k : EvRT tf σ H ds) (hl : cs.length + ds.length ≤ 1000) : EvLT (tOp rCat te tf) σ H (cs ++ ds) := fun H1 e Q q => h H1 e _ fun p xs H2 e2 hp hx => k H2 (Ex.trans e e2) _ fun p' ys H3 e3 hp' hy =>
  ⟨p, p', xs, ys, rfl, rfl, e3 _ _ hp, hp', sz_of (by rw [hx.1, hy.1]; omega), fun t nt => q t _ _ (fresh_back (Ex.trans e2 e3) nt) (Ex.trans (Ex.trans e2 e3) (Ex.new nt)) upd_same (((hx.same e3).app hy).same (Ex.new nt))⟩
theorem elt_rep2 (h : EvRT te σ H [c]) : EvLT (tOp rRep te (tC (.int 2))) σ H [c, c] := fun H1 e Q q => h H1 e _ fun p xs H2 e2 hp hx =>
  ⟨p, 2, xs, rfl, rfl, hp, by omega, by omega, sz_of (by rw [hx.1]; show 2 ≤ 100000; decide), fun t nt => q t _ _ (fresh_back e2 nt) (Ex.trans e2 (Ex.new nt)) upd_same (by
    have : (List.replicate (2 : Int).toNat xs).flatten = xs ++ (xs ++ []) := rfl
    rw [this, List.append_nil]
    exact ((hx.app hx).same (Ex.new nt)))⟩
end
section
variable {P : Program} {w : World} {K : PySem.W.Frag} {mg : Str → Option Value} {base : Heap} {f : Addr} {fd : FuncData}
def spParts : Sp := fun vs H Q _ => vs = [] ∧ ∀ p xs H', H p = none → Same H H' → H' p = some (.lst xs) → TupsAt H' xs cols → Q (.ref p) H'
abbrev s_parts : Stmt := top 31
theorem sc_parts : FnScope ["_law_found"] [] (defScope s_parts) := ⟨rfl, rfl, rfl, by decide +kernel, rfl, by decide +kernel, by decide +kernel⟩
theorem ok_parts (F : L2.Fun K "_law_parts" "_law_parts" s_parts f fd) : FnOk P w K mg base CX0 1 f fd [] spParts := by
  refine F.ok sc_parts (fun vs H Q E h => ?_) (fun cdv A outer s H vs Q E hr h => ?_)
  · obtain ⟨rfl, _⟩ := h
    rfl
  · obtain ⟨rfl, k⟩ := h
    refine ⟨_, (pss_cons (ps_set (i := 0) sc_parts.nd rfl (by first | exact Or.inl rfl | exact Or.inr rfl) (pe_lst (pa_cons (pe_tup (pa_cons pe_str (pa_cons pe_str (pa_cons pe_str (pa_cons pe_str pa_nil))))) (pa_cons (pe_tup (pa_cons pe_str (pa_cons pe_str (pa_cons pe_str (pa_cons pe_str pa_nil))))) (pa_cons (pe_tup (pa_cons pe_str (pa_cons pe_str pa_nil))) pa_nil)))))
        (pss_one (ps_ret (pe_op op_cat (pe_op op_cat (pv 0) (pe_op op_rep (pe_lst (pa_cons (pe_tup (pa_cons pe_str (pa_cons pe_str (pa_cons pe_str (pa_cons pe_str pa_nil))))) pa_nil)) pe_int)) (pe_lst (pa_cons (pe_tup (pa_cons pe_str (pa_cons pe_str pa_nil))) pa_nil)))))), ?_⟩
    have c4 : ∀ {σ : L2.St} {H : Hp} (a b c d : Str), EvU (tTup (tCons (tC (.str a)) (tCons (tC (.str b)) (tCons (tC (.str c)) (tCons (tC (.str d)) tNil))))) σ H ([a, b, c, d].map V.str) := fun a b c d => eu_tup (ea_cons ev_c (ea_cons ev_c (ea_cons ev_c (ea_cons ev_c ea_nil)))) (by show 4 ≤ 100000; decide)
    have c2 : ∀ {σ : L2.St} {H : Hp} (a b : Str), EvU (tTup (tCons (tC (.str a)) (tCons (tC (.str b)) tNil))) σ H ([a, b].map V.str) := fun a b => eu_tup (ea_cons ev_c (ea_cons ev_c ea_nil)) (by show 2 ≤ 100000; decide)
    refine q_asgLT (elt_lst (eat_cons (c4 "no" "last" "raise" "row") (eat_cons (c4 "no" "last" "raise" "lower") (eat_cons (c2 "no" "least") eat_nil))) (by show 3 ≤ 1000; decide)) fun p xs H1 np e1 hp hx => ?_
    exact s_retLT (elt_cat (elt_cat (ert_var (ev_var rfl) hp hx) (elt_rep2 (elt_lst (eat_cons (c4 "no" "last" "raise" "later") eat_nil) (by show 1 ≤ 1000; decide)).r).r (by show 3 + 2 ≤ 1000; decide)).r (elt_lst (eat_cons (c2 "exact" "floored") eat_nil) (by show 1 ≤ 1000; decide)).r (by show 5 + 1 ≤ 1000; decide)) fun t ys H2 nt e2 ht hy => k t ys H2 (fresh_back e1 nt) (Same.trans e1 e2) ht hy
end
end Lm

namespace Lm
open PySem L2 Evl RZ
/-! ### comprehensions that draw -/
theorem StAt.neL {H : Hp} {st c : Addr} (S : StAt H st c) : ∃ xs, H st = some (.lst xs) := let ⟨⟨_, _, _, h⟩, _, _⟩ := S; ⟨_, h⟩
def KpS (st D : Addr) (H H' : Hp) : Prop := ∀ b o, H b = some o → (b = st ∨ b = D → ∀ xs, o ≠ .lst xs) → H' b = some o
theorem kps_of {st D : Addr} {H H' : Hp} {xs : List V} (e : Kp st H H') (h : H st = some (.lst xs)) : KpS st D H H' := fun b o hb hn => e b o (fun z => by
  subst z
  rw [h] at hb
  exact hn (.inl rfl) _ (Option.some.inj hb).symm) hb
theorem kps_mut {st D : Addr} {H : Hp} {xs : List V} {o' : HO} (h : H D = some (.lst xs)) : KpS st D H (upd H D o') := fun b o hb hn => by
  rw [upd_ne]
  · exact hb
  · intro z
    subst z
    rw [h] at hb
    exact hn (.inr rfl) _ (Option.some.inj hb).symm
theorem KpS.lst {st D : Addr} {H H' : Hp} {l : Addr} {o : HO} (e : KpS st D H H') (h1 : l ≠ st) (h2 : l ≠ D) (h : H l = some o) : H' l = some o := e _ _ h fun z => by
  rcases z with z | z
  · exact absurd z h1
  · exact absurd z h2
theorem lc_drawR {st c D : Addr} {σ : L2.St} {te : TE} {j n : Nat} {H1 : Hp} {Qd : Hp → Prop} (Pr : Nat → V → Hp → Prop) (S0 : StAt H1 st c) (nD : H1 D = none) (hn : n ≤ 1000) (stab : ∀ i v H H', Pr i v H → KpS st D H H' → Pr i v H')
    (turn : ∀ i H', i < n → StAt H' st c → Kp st H1 H' → (∃ acc, H' D = some (.lst acc)) → ∀ Q : VK, (∀ v H2, Pr i v H2 → StAt H2 st c → Kp st H' H2 → Q v H2) → te ((wipe σ [j]).set j (some (.int (i : Nat)))) H' Q)
    (done : ∀ vs H', vs.length = n → (∀ i v, vs[i]? = some v → Pr i v H') → StAt H' st c → Kp st H1 H' → H' D = some (.lst vs) → Qd H') :
    ∃ W : Nat → Nat → Hp → Prop, (∃ m, W 0 m (upd H1 D (.lst []))) ∧ ∀ i m H, W i m H → ((Itr 0 n).stop i H ∧ Qd H) ∨ ((Itr 0 n).go i H ∧ ∃ Nx : Hp → Prop, (∀ H', Nx H' → ∃ m', m' < m ∧ W (i + 1) m' H') ∧ ∀ x H', (Itr 0 n).yld i H x H' → gName j x (wipe σ [j]) H' fun σ2 H2 => wipe σ2 [j] = wipe σ [j] ∧ tYes σ2 H2 fun b H3 =>
      if b = true then te σ2 H3 fun y H4 => ∃ acc, H4 D = some (.lst acc) ∧ acc.length < sizeLine ∧ Nx (upd H4 D (.lst (acc ++ [y]))) else Nx H3) := by
  have hDs := (S0.of_new nD).1
  have hDc := (S0.of_new nD).2
  refine lc_range (lo := 0) (fun i H' => StAt H' st c ∧ Kp st H1 H' ∧ ∃ vs : List V, vs.length = i ∧ H' D = some (.lst vs) ∧ ∀ k v, vs[k]? = some v → Pr k v H') ⟨S0.same (Same.upd' nD), Kp.of (Same.upd' nD), [], rfl, upd_same, fun k v h => by simp at h⟩ ?_ ?_
  · rintro i H' hi ⟨S', e, vs, hl, hD, hv⟩
    have z : (0 : Int) + (i : Int) = (i : Int) := by omega
    rw [z]
    refine ⟨wipe1 σ j _, ?_⟩
    obtain ⟨xs1, hst1⟩ := S'.neL
    refine turn i H' hi S' e ⟨_, hD⟩ _ fun v H2 hp S2 e2 => ?_
    have hD2 := e2 _ _ hDs hD
    refine ⟨vs, hD2, small1000 (by omega), S2.mut hDs hDc, Kp.mut (e.trans e2) nD, vs ++ [v], by simp [hl], upd_same, fun k x hx => ?_⟩
    have km : KpS st D H2 (upd H2 D (.lst (vs ++ [v]))) := kps_mut hD2
    rcases Nat.lt_or_ge k vs.length with hk | hk
    · rw [List.getElem?_append_left hk] at hx
      exact stab _ _ _ _ (stab _ _ _ _ (hv k x hx) (kps_of e2 hst1)) km
    · rw [List.getElem?_append_right hk] at hx
      cases q : k - vs.length with
      | zero =>
        rw [q] at hx
        cases hx
        have : k = i := by omega
        rw [this]
        exact stab _ _ _ _ hp km
      | succ m => rw [q] at hx; simp at hx
  · rintro H' ⟨S', e, vs, hl, hD, hv⟩
    exact done vs H' hl hv S' e hD
theorem lc_drawL {K : PySem.W.Frag} {st c D a : Addr} {xs : List V} {σ : L2.St} {te : TE} {j : Nat} {H1 : Hp} {Qd : Hp → Prop} (Pr : Nat → V → Hp → Prop) (S0 : StAt H1 st c) (nD : H1 D = none) (has : a ≠ st) (ha : H1 a = some (.lst xs)) (hn : xs.length ≤ 1000) (stab : ∀ i v H H', Pr i v H → KpS st D H H' → Pr i v H')
    (turn : ∀ i x H', xs[i]? = some x → StAt H' st c → Kp st H1 H' → (∃ acc, H' D = some (.lst acc)) → ∀ Q : VK, (∀ v H2, Pr i v H2 → StAt H2 st c → Kp st H' H2 → Q v H2) → te ((wipe σ [j]).set j (some x)) H' Q)
    (done : ∀ vs H', vs.length = xs.length → (∀ i v, vs[i]? = some v → Pr i v H') → StAt H' st c → Kp st H1 H' → H' D = some (.lst vs) → Qd H') :
    ∃ W : Nat → Nat → Hp → Prop, (∃ m, W 0 m (upd H1 D (.lst []))) ∧ ∀ i m H, W i m H → ((Itl K a).stop i H ∧ Qd H) ∨ ((Itl K a).go i H ∧ ∃ Nx : Hp → Prop, (∀ H', Nx H' → ∃ m', m' < m ∧ W (i + 1) m' H') ∧ ∀ x H', (Itl K a).yld i H x H' → gName j x (wipe σ [j]) H' fun σ2 H2 => wipe σ2 [j] = wipe σ [j] ∧ tYes σ2 H2 fun b H3 =>
      if b = true then te σ2 H3 fun y H4 => ∃ acc, H4 D = some (.lst acc) ∧ acc.length < sizeLine ∧ Nx (upd H4 D (.lst (acc ++ [y]))) else Nx H3) := by
  have hDs := (S0.of_new nD).1
  have hDc := (S0.of_new nD).2
  refine lc_list (K := K) (a := a) (xs := xs) (fun i H' => StAt H' st c ∧ Kp st H1 H' ∧ ∃ vs : List V, vs.length = i ∧ H' D = some (.lst vs) ∧ ∀ k v, vs[k]? = some v → Pr k v H') ⟨S0.same (Same.upd' nD), Kp.of (Same.upd' nD), [], rfl, upd_same, fun k v h => by simp at h⟩ (fun i H' _ p => SqL.of (p.2.1 _ _ has ha)) ?_ ?_
  · rintro i x H' hx ⟨S', e, vs, hl, hD, hv⟩
    have hi := (List.getElem?_eq_some_iff.mp hx).1
    refine ⟨wipe1 σ j _, ?_⟩
    obtain ⟨xs1, hst1⟩ := S'.neL
    refine turn i x H' hx S' e ⟨_, hD⟩ _ fun v H2 hp S2 e2 => ?_
    have hD2 := e2 _ _ hDs hD
    refine ⟨vs, hD2, small1000 (by omega), S2.mut hDs hDc, Kp.mut (e.trans e2) nD, vs ++ [v], by simp [hl], upd_same, fun k y hy => ?_⟩
    have km : KpS st D H2 (upd H2 D (.lst (vs ++ [v]))) := kps_mut hD2
    rcases Nat.lt_or_ge k vs.length with hk | hk
    · rw [List.getElem?_append_left hk] at hy
      exact stab _ _ _ _ (stab _ _ _ _ (hv k y hy) (kps_of e2 hst1)) km
    · rw [List.getElem?_append_right hk] at hy
      cases q : k - vs.length with
      | zero =>
        rw [q] at hy
        cases hy
        have : k = i := by omega
        rw [this]
        exact stab _ _ _ _ hp km
      | succ m => rw [q] at hy; simp at hy
  · rintro H' ⟨S', e, vs, hl, hD, hv⟩
    exact done vs H' hl hv S' e hD

def untxt (v : V) : Str := match v with
  | .str w => w
  | _ => ""
section
variable {P : Program} {w : World} {K : PySem.W.Frag} {mg : Str → Option Value} {base : Heap} {f : Addr} {fd : FuncData}
def spField : Sp := fun vs H Q _ => ∃ (st c : Addr) (nm : Str), vs = [.ref st, .str nm] ∧ StAt H st c ∧ isW nm = true ∧ ∀ p r H', H p = none → StAt H' st c → Kp st H H' → H' p = some (.tup ((nm :: r).map V.str)) → FldOk nm r → Q (.ref p) H'
abbrev s_field : Stmt := top 32
theorem sc_field : FnScope ["_law_state", "_law_called", "_law_some"] ["_law_state", "_law_called"] (defScope s_field) := ⟨rfl, rfl, rfl, by decide +kernel, rfl, by decide +kernel, by decide +kernel⟩
theorem fld_of {nm : Str} {vs : List V} (h : isW nm = true) (hl : vs.length = 6) (hv : ∀ (i : Nat) v, vs[i]? = some v → ∃ w c, v = .str w ∧ cols[i]? = some c ∧ w ∈ c) : vs = (vs.map untxt).map V.str ∧ FldOk nm (vs.map untxt) := by
  refine ⟨?_, h, by rw [List.length_map, hl], fun i w c hw hc => ?_⟩
  · rw [List.map_map]
    refine (List.map_id vs).symm.trans (List.map_congr_left fun v hv' => ?_)
    obtain ⟨i, hi⟩ := List.mem_iff_getElem?.mp hv'
    obtain ⟨w, c, rfl, _⟩ := hv i v hi
    rfl
  · rw [List.getElem?_map] at hw
    cases hi : vs[i]? with
    | none => rw [hi] at hw; cases hw
    | some v =>
      rw [hi] at hw
      obtain ⟨w', c', rfl, hc', hm⟩ := hv i v hi
      cases hw
      rw [hc] at hc'
      cases hc'
      exact hm
theorem sr_cat {rd : List V → Hp → VK → Prop} {te tf : TE} {D : Ends} {σ : L2.St} {H : Hp} (h : te σ H fun v H1 => tf σ H1 fun y H2 => rCat v y H2 fun z H3 => rd [z] H3 D.rt) : tRet (tCB rd (tCons (tOp rCat te tf) tNil)) D σ H := h
theorem cols_pos : ∀ c ∈ cols, 0 < c.length ∧ c.length < 1073741824 := by decide +kernel
theorem ok_field {fP fO : Addr} {fdP fdO : FuncData} (F : L2.Fun K "_law_field" "_law_field" s_field f fd) (T : Blt mg) (D_parts : DefOk P w K mg base 1 "_law_parts" fP fdP [] spParts) (D_one : DefOk P w K mg base 3 "_law_one" fO fdO ["_law_state", "_law_things"] (spOneA K)) :
    FnOk P w K mg base CX0 4 f fd ["_law_state", "_law_called"] spField := by
  refine F.ok sc_field (fun vs H Q E h => ?_) (fun cdv A outer s H vs Q E hr h => ?_)
  · obtain ⟨st, c, nm, rfl, _⟩ := h
    rfl
  · obtain ⟨st, c, nm, rfl, S, hn, k⟩ := h
    refine ⟨_, (pss_one (ps_ret (pe_callTy call_tuple_of (by rfl) T.b_tuple (by decide +kernel) (by exact (pa_cons (pe_op op_cat (pe_lst (pa_cons (pv 1) pa_nil)) (pe_lc (own := [("_law_some", 2)]) (g := gName 2) (tt := tYes) (te := (tCall (spOneA K) [] E0 (tCons (tVar 0) (tCons (tVar 2) tNil)))) rfl sc_field.nd (pi_list (pe_d0 D_parts (hr.mono (by decide)))) (blkOk_by (own := [("_law_some", 2)]) (by kernel_rfl)) (fun _ _ _ _ _ => (pg_name (i := 2) sc_field.nd rfl (by first | exact Or.inl rfl | exact Or.inr rfl))) (fun _ _ _ _ _ => pts_nil) (fun _ _ _ _ _ => by exact (pe_d D_one (hr.mono (by decide)) (pa_cons (pv 0) (pa_cons (pv 2) pa_nil)))))) pa_nil))))), ?_⟩
    refine sr_cat ((el_lst (σ := [some (.ref st), some (.str nm), none]) (ta := tCons (tVar 1) tNil) (vs := [.str nm]) (ea_cons (ev_var rfl) ea_nil) (by show 1 ≤ 100000; decide)) H (Ex.refl _) _ fun l0 H1 n1 e1 h1 => ?_)
    refine ⟨rfl, fun a xs H2 na e2 ha hx => ⟨a, rfl, ⟨_, SqL.of ha⟩, fun D nD => ?_⟩⟩
    have e12 := Same.trans e1 e2
    have S2 := S.same e12
    obtain ⟨xs1, hst⟩ := S.neL
    have stL := e12 _ _ hst
    have has : a ≠ st := fun z => by
      rw [z] at na
      rw [e1 _ _ hst] at na
      cases na
    have hl0 : l0 ≠ st := fun z => by
      rw [z, hst] at n1
      cases n1
    have lx : xs.length = 6 := by rw [hx.1]; exact cols_len
    refine lc_drawL (K := K) (σ := [some (.ref st), some (.str nm), none]) (fun i v _ => ∃ w c, v = .str w ∧ cols[i]? = some c ∧ w ∈ c) S2 nD has ha (by omega) (fun i v _ _ h _ => h) (fun i x H' hxi S' e' _ Q' q' => ?_) fun vs H' hl hv S' e' hD => ?_
    · have hi := (List.getElem?_eq_some_iff.mp hxi).1
      have hc : cols[i]? = some (cols[i]'(by rw [cols_len]; omega)) := List.getElem?_eq_getElem _
      generalize cols[i]'(by rw [cols_len]; omega) = cc at hc
      obtain ⟨p, hp, hpt⟩ := hx.2 i cc hc
      rw [hxi] at hp
      cases hp
      have hps : p ≠ st := ne_of hpt stL (by intro z; cases z)
      have cp := cols_pos cc (List.mem_of_getElem? hc)
      exact ⟨_, rfl, _, rfl, st, c, p, cc.map V.str, rfl, S', hps, .inr (SqT.of (e' _ _ hps hpt)), by rw [List.length_map]; exact cp.1, by rw [List.length_map]; exact cp.2, fun v H3 hvm S3 e3 => by
        obtain ⟨w, hw, rfl⟩ := List.mem_map.mp hvm
        exact q' _ H3 ⟨w, cc, rfl, hc, hw⟩ S3 e3⟩
    · rw [lx] at hl
      obtain ⟨hvs, hf⟩ := fld_of hn hl hv
      have hl0' := e' _ _ hl0 (e2 _ _ h1)
      have eK : Kp st H H' := (Kp.of e12).trans e'
      refine ⟨l0, D, _, _, rfl, rfl, hl0', hD, sz_of (by rw [hl]; show 1 + 6 ≤ 100000; decide), fun q nq => ?_⟩
      have nqe : ∀ b o, H b = some o → ∃ o', H' b = some o' := fun b o hb => by
        by_cases hbs : b = st
        · subst hbs
          obtain ⟨ys, hys⟩ := S'.neL
          exact ⟨_, hys⟩
        · exact ⟨_, eK _ _ hbs hb⟩
      refine ⟨q, _, rfl, .inl ⟨SqL.of upd_same, fun t nt => k t (vs.map untxt) _ ?_ ((S'.same (Same.upd' nq)).same (Same.upd' nt)) ((eK.trans (Kp.of (Same.upd' nq))).trans (Kp.of (Same.upd' nt))) ?_ hf⟩⟩
      · cases hb : H t with
        | none => rfl
        | some o =>
          obtain ⟨o', ho'⟩ := nqe _ _ hb
          have := Same.upd' nq _ _ ho' (o := .lst ([V.str nm] ++ vs))
          rw [this] at nt
          cases nt
      · rw [upd_same, hvs]
        simp [untxt]
end
end Lm

namespace Lm
open PySem L2 Evl RZ
theorem kp_back {st c t : Addr} {H H' : Hp} (S : StAt H' st c) (k : Kp st H H') (n : H' t = none) : H t = none := by
  cases hb : H t with
  | none => rfl
  | some o =>
    by_cases hbs : t = st
    · subst hbs
      obtain ⟨ys, hys⟩ := S.neL
      rw [hys] at n
      cases n
    · rw [k _ _ hbs hb] at n
      cases n
theorem rows_of {H : Hp} : ∀ (ws : List Str) (vs : List V), vs.length = ws.length → (∀ (i : Nat) v, vs[i]? = some v → ∃ p nm r, v = .ref p ∧ ws[i]? = some nm ∧ H p = some (.tup ((nm :: r).map V.str)) ∧ FldOk nm r) → ∃ fs : List (Str × List Str), RowsT H vs fs ∧ fs.map (fun z => z.1) = ws ∧ ∀ z ∈ fs, FldOk z.1 z.2
  | [], [], _, _ => ⟨[], ⟨[], rfl, rfl, fun j z u h => nomatch h⟩, rfl, fun z h => nomatch h⟩
  | [], _ :: _, h, _ => nomatch h
  | _ :: _, [], h, _ => nomatch h
  | x :: ws, v :: vs, h, k => by
    obtain ⟨fs, ⟨ts, h1, h2, h3⟩, h4, h5⟩ := rows_of ws vs (by simpa using h) fun i u hu => k (i + 1) u hu
    obtain ⟨p, nm, r, rfl, hn, hp, hf⟩ := k 0 v rfl
    cases hn
    refine ⟨(x, r) :: fs, ⟨p :: ts, by rw [h1]; rfl, by simp [h2], fun j z u a b => ?_⟩, by rw [List.map_cons, h4], fun z hz => ?_⟩
    · cases j with
      | zero => cases a; cases b; exact hp
      | succ j => exact h3 j z u a b
    · rcases List.mem_cons.mp hz with e | hz
      · rw [e]; exact hf
      · exact h5 z hz
section
variable {P : Program} {w : World} {K : PySem.W.Frag} {mg : Str → Option Value} {base : Heap} {f : Addr} {fd : FuncData}
def spRule : Sp := fun vs H Q _ => ∃ (st c : Addr), vs = [.ref st] ∧ StAt H st c ∧ ∀ (t rp sp : Addr) (xs : List V) (fs : List (Str × List Str)) (wy nm : Str) (i : Nat) (H' : Hp), H t = none → StAt H' st c → Kp st H H' → H' t = some (.tup [.ref rp, .ref sp]) → H rp = none → H' rp = some (.lst xs) → RowsT H' xs fs → FsOk fs → H' sp = some (.tup [.str wy, .str nm]) → wy ∈ ways → (fs.map fun z => z.1)[i]? = some nm → (∀ x ∈ fs.map fun z => z.1, x ∈ allW) → Q (.ref t) H'
abbrev s_rule : Stmt := top 33
theorem sc_rule : FnScope ["_law_state", "_law_names", "_law_shown", "_law_called"] ["_law_state"] (defScope s_rule) := ⟨rfl, rfl, rfl, by decide +kernel, rfl, by decide +kernel, by decide +kernel⟩
theorem ok_rule {fT fW fO fF : Addr} {fdT fdW fdO fdF : FuncData} (F : L2.Fun K "_law_rule" "_law_rule" s_rule f fd) (D_take : DefOk P w K mg base 2 "_law_take" fT fdT ["_law_state", "_law_many"] spTake) (D_some_words : DefOk P w K mg base 3 "_law_some_words" fW fdW ["_law_state", "_law_many"] spSomeWA)
    (D_one : DefOk P w K mg base 3 "_law_one" fO fdO ["_law_state", "_law_things"] (spOneA K)) (D_field : DefOk P w K mg base 4 "_law_field" fF fdF ["_law_state", "_law_called"] spField) : FnOk P w K mg base CX0 5 f fd ["_law_state"] spRule := by
  refine F.ok sc_rule (fun vs H Q E h => ?_) (fun cdv A outer s H vs Q E hr h => ?_)
  · obtain ⟨st, c, rfl, _⟩ := h
    rfl
  · obtain ⟨st, c, rfl, S, k⟩ := h
    refine ⟨_, (pss_cons (ps_set (i := 1) sc_rule.nd rfl (by first | exact Or.inl rfl | exact Or.inr rfl) (pe_d D_some_words (hr.mono (by decide)) (pa_cons (pv 0) (pa_cons (pe_op op_add pe_int (pe_d D_take (hr.mono (by decide)) (pa_cons (pv 0) (pa_cons pe_int pa_nil)))) pa_nil))))
        (pss_cons (ps_set (i := 2) sc_rule.nd rfl (by first | exact Or.inl rfl | exact Or.inr rfl) (pe_tup (pa_cons (pe_d D_one (hr.mono (by decide)) (pa_cons (pv 0) (pa_cons (pe_tup (pa_cons pe_str (pa_cons pe_str (pa_cons pe_str pa_nil)))) pa_nil))) (pa_cons (pe_d D_one (hr.mono (by decide)) (pa_cons (pv 0) (pa_cons (pv 1) pa_nil))) pa_nil))))
        (pss_one (ps_ret (pe_tup (by exact (pa_cons (pe_lc (own := [("_law_called", 3)]) (g := gName 3) (tt := tYes) (te := (tCall spField [] E0 (tCons (tVar 0) (tCons (tVar 3) tNil)))) rfl sc_rule.nd (pi_list (pv 1)) (blkOk_by (own := [("_law_called", 3)]) (by kernel_rfl)) (fun _ _ _ _ _ => (pg_name (i := 3) sc_rule.nd rfl (by first | exact Or.inl rfl | exact Or.inr rfl))) (fun _ _ _ _ _ => pts_nil) (fun _ _ _ _ _ => by exact (pe_d D_field (hr.mono (by decide)) (pa_cons (pv 0) (pa_cons (pv 3) pa_nil))))) (pa_cons (pv 2) pa_nil)))))))), ?_⟩
    refine ⟨_, rfl, _, rfl, st, c, 3, rfl, S, by omega, by omega, fun d H1 d0 d1 S1 k1 => ?_⟩
    obtain ⟨n, rfl⟩ := Int.eq_ofNat_of_zero_le d0
    refine ⟨1, (n : Int), rfl, rfl, st, c, 1 + n, by simp, S1, by omega, fun nl ws H2 nnl hw ha S2 k2 hnl => ?_⟩
    have lw : ws.length = 1 + n := hw.len
    have k02 := k1.trans k2
    obtain ⟨ys, hys⟩ := S1.neL
    have hnst : nl ≠ st := fun z => by rw [z, hys] at nnl; cases nnl
    refine ⟨_, rfl, ?_⟩
    refine (eu_tup (vs := ways.map V.str) (ea_cons ev_c (ea_cons ev_c (ea_cons ev_c ea_nil))) (by decide)) H2 (Ex.refl _) _ fun pw H3 nw ew hpw => ?_
    have S3 := S2.same ew
    obtain ⟨zs, hzs⟩ := S3.neL
    have hpst : pw ≠ st := ne_of hpw hzs (by intro z; cases z)
    refine ⟨st, c, pw, ways.map V.str, rfl, S3, hpst, .inr (SqT.of hpw), by decide, by decide, fun v H4 hv S4 k4 => ?_⟩
    obtain ⟨wy, hwy, rfl⟩ := List.mem_map.mp hv
    have hnl4 := k4 _ _ hnst (ew _ _ hnl)
    refine ⟨_, rfl, _, rfl, st, c, nl, ws.map V.str, rfl, S4, hnst, .inl (SqL.of hnl4), by rw [List.length_map]; omega, by rw [List.length_map]; omega, fun v' H5 hv' S5 k5 => ?_⟩
    obtain ⟨nm, hnm, rfl⟩ := List.mem_map.mp hv'
    obtain ⟨i, hi⟩ := List.mem_iff_getElem?.mp hnm
    refine ⟨sz_of (by show 2 ≤ 100000; decide), fun sp nsp => ?_⟩
    have e6 := Same.upd' nsp (o := .tup [.str wy, .str nm])
    have hsp : (upd H5 sp (.tup [.str wy, .str nm])) sp = some (.tup [.str wy, .str nm]) := upd_same
    have S6 := S5.same e6
    have hnl6 := e6 _ _ (k5 _ _ hnst hnl4)
    have k06 := (((k02.trans (Kp.of ew)).trans k4).trans k5).trans (Kp.of e6)
    generalize upd H5 sp (.tup [.str wy, .str nm]) = H6 at hsp S6 hnl6 k06
    obtain ⟨us, hus⟩ := S6.neL
    have hspst : sp ≠ st := ne_of hsp hus (by intro z; cases z)
    refine ⟨_, rfl, nl, rfl, ⟨_, SqL.of hnl6⟩, fun D nD => ?_⟩
    refine lc_drawL (K := K) (σ := [some (.ref st), some (.ref nl), some (.ref sp), none]) (fun i v H' => ∃ p nm r, v = .ref p ∧ ws[i]? = some nm ∧ H' p = some (.tup ((nm :: r).map V.str)) ∧ FldOk nm r) S6 nD hnst hnl6 (by rw [List.length_map]; omega) (fun i v Ha Hb h e => ?_) (fun i x H' hx S' e' _ Q' q' => ?_) fun vs H' hl hv S' e' hD => ?_
    · obtain ⟨p, nm, r, h1, h2, h3, h4⟩ := h
      exact ⟨p, nm, r, h1, h2, e _ _ h3 (by intro _ xs z; cases z), h4⟩
    · obtain ⟨z, hz, rfl⟩ := map_inv1 hx
      exact ⟨_, rfl, _, rfl, st, c, z, rfl, S', hw.wd z (List.mem_of_getElem? hz), fun p r H7 np S7 k7 hp hf => q' _ H7 ⟨p, z, r, rfl, hz, hp, hf⟩ S7 k7⟩
    · rw [List.length_map] at hl
      obtain ⟨fs, hR, hfs, hok⟩ := rows_of ws vs hl hv
      have lf : fs.length = ws.length := by rw [← hfs, List.length_map]
      refine ⟨_, rfl, sz_of (by show 2 ≤ 100000; decide), fun t nt => ?_⟩
      have k07 := k06.trans e'
      have e8 := Same.upd' nt (o := .tup [.ref D, .ref sp])
      refine k t D sp vs fs wy nm i _ (kp_back S' k07 nt) (S'.same e8) (k07.trans (Kp.of e8)) upd_same (kp_back S6 k06 nD) (e8 _ _ hD) (hR.same e8) ⟨by omega, by omega, hok, by rw [hfs]; exact hw.nd⟩ (e8 _ _ (e' _ _ hspst hsp)) hwy (by rw [hfs]; exact hi) (by rw [hfs]; exact ha)
end
end Lm

namespace Lm
open PySem L2 Evl RZ TL
/-! ### the lines of a rule's text -/
def colN : List Str := ["read", "jump", "anew", "give", "take", "kept"]
structure ColsN (K : PySem.W.Frag) (C0 : Addr) : Prop where
  ex : ∃ ps : List (Addr × Str × Addr), ps.length = 6 ∧ (∀ H, SqT K H C0 (ps.map fun z => V.ref z.1)) ∧ ∀ (i : Nat) z, ps[i]? = some z → (∀ H, SqT K H z.1 [.str z.2.1, .ref z.2.2]) ∧ colN[i]? = some z.2.1 ∧ ∃ c, cols[i]? = some c ∧ ∀ H, SqT K H z.2.2 (c.map V.str)
theorem ColsN.at_ {K : PySem.W.Frag} {C0 : Addr} (h : ColsN K C0) : ColsAt K C0 := by
  obtain ⟨ps, h1, h2, h3⟩ := h.ex
  exact ⟨ps, h1, h2, fun i z hz => let ⟨a, b, c⟩ := h3 i z hz; ⟨a, c⟩⟩
def stepW (c w : Str) : List Str := if c = "kept" then [w] else [c, w]
def wordsF (nm : Str) (r : List Str) : List Str := [("field" : Str), nm] ++ ((colN.zip r).map fun z => stepW z.1 z.2).flatten
def lineF (nm : Str) (r : List Str) : Str := Txt.join " " (wordsF nm r) ++ "\n"
def wordsS (wy nm : Str) : List Str := ["show", wy, nm]
def lineS (wy nm : Str) : Str := Txt.join " " (wordsS wy nm) ++ "\n"
theorem len_appQ (x y : Str) : (x ++ y).length = x.length + y.length := len_app' x y
theorem join_lenQ (ps : List Str) : (Txt.join " " ps).length ≤ wgt ps := by
  cases ps with
  | nil => decide +kernel
  | cons a b =>
    have h1 := joinL_len1 32 (ps := (a :: b).map tl) (by simp)
    have e : (Txt.join " " (a :: b)).length = (joinL [32] ((a :: b).map tl)).length := by rw [len_tl, join_eq, tl_join, tl_sp]
    rw [List.map_map, List.length_map] at h1
    have e2 : (a :: b).map (List.length ∘ tl) = (a :: b).map (·.length) := List.map_congr_left fun p _ => (len_tl p).symm
    rw [e2] at h1
    unfold wgt
    omega
theorem wgt_flat {L : List (List Str)} {m : Nat} (h : ∀ p ∈ L, wgt p ≤ m) : wgt L.flatten ≤ L.length * m := by
  induction L with
  | nil => simp [wgt]
  | cons a r ih =>
    have h1 := h a (by simp)
    have h2 := ih fun p hp => h p (by simp [hp])
    rw [List.flatten_cons, wgt_app, List.length_cons, Nat.succ_mul]
    omega
section
variable {K : PySem.W.Frag} {σ : L2.St} {H : Hp}
theorem el_ite {t : TT} {ta tb : TE} {b : Bool} {xs : List V} (h : EvT t σ H b) (h1 : b = true → EvL ta σ H xs) (h2 : b = false → EvL tb σ H xs) : EvL (tIf t ta tb) σ H xs := fun H1 e Q q => h H1 e _ fun H2 e2 => by
  cases b with
  | true => exact h1 rfl H2 (Ex.trans e e2) _ fun p H3 np e3 hp => q p H3 (fresh_back e2 np) (Ex.trans e2 e3) hp
  | false => exact h2 rfl H2 (Ex.trans e e2) _ fun p H3 np e3 hp => q p H3 (fresh_back e2 np) (Ex.trans e2 e3) hp
theorem ev_joinL {te tj : TE} {y : Str} {p : Addr} {ps : List Str} (hy : Ev tj σ H (.str y)) (h : ∀ H1, Ex H H1 → Ev te σ H1 (.ref p)) (hp : H p = some (.lst (ps.map V.str))) (hz : (ps.map (·.length)).sum + ps.length * y.length ≤ 16777216) : Ev (tM1 (rJoin K) tj te) σ H (.str (Txt.join y ps)) := fun H1 e Q q => hy H1 e _ fun H2 e2 => ⟨⟨_, rfl⟩, h H2 (Ex.trans e e2) H2 (Ex.refl _) _ fun H3 e3 => ⟨y, p, ps, rfl, rfl, .inl (SqL.of (Ex.trans e (Ex.trans e2 e3) _ _ hp)), hz, q H3 (Ex.trans e2 e3)⟩⟩
theorem ev_addS {ta tb : TE} {a b : Str} (h1 : Ev ta σ H (.str a)) (h2 : Ev tb σ H (.str b)) (hz : a.length + b.length ≤ 100000) : Ev (tOp rAddS ta tb) σ H (.str (a ++ b)) := fun H1 e Q q => h1 H1 e _ fun H2 e2 => h2 H2 (Ex.trans e e2) _ fun H3 e3 => ⟨a, b, rfl, rfl, sz_of hz, q H3 (Ex.trans e2 e3)⟩
end
section
variable {P : Program} {w : World} {K : PySem.W.Frag} {mg : Str → Option Value} {base : Heap} {f : Addr} {fd : FuncData}
/-- a row of texts for a line -/
structure RowSm (nm : Str) (r : List Str) : Prop where
  k : nm.length ≤ 100
  n : r.length = 6
  b : ∀ x ∈ r, x.length ≤ 100
def spLnF : Sp := fun vs H Q _ => ∃ (a : Addr) (nm : Str) (r : List Str), vs = [.ref a] ∧ H a = some (.tup ((nm :: r).map V.str)) ∧ RowSm nm r ∧ ∀ H', Ex H H' → Q (.str (lineF nm r)) H'
abbrev s_line_of_field : Stmt := top 19
theorem sc_line_of_field : FnScope ["field", "parts", "column", "words", "word"] ["field"] (defScope s_line_of_field) := ⟨rfl, rfl, rfl, by decide +kernel, rfl, by decide +kernel, by decide +kernel⟩
theorem ok_line_f {C0 W0 : Addr} {tM : Tok} (F : L2.Fun K "line_of_field" "line_of_field" s_line_of_field f fd) (T : Blt mg) (T' : RlCst mg C0 W0 tM) (CC : ColsN K C0) : FnOk P w K mg base CX0 1 f fd ["field"] spLnF := by
  refine F.ok sc_line_of_field (fun vs H Q E h => ?_) (fun cdv A outer s H vs Q E hr h => ?_)
  · obtain ⟨a, nm, r, rfl, _⟩ := h
    rfl
  · obtain ⟨a, nm, r, rfl, ha, hs, k⟩ := h
    obtain ⟨ps, lps, hC, hps⟩ := CC.ex
    refine ⟨_, (pss_cons (ps_set (i := 1) sc_line_of_field.nd rfl (by first | exact Or.inl rfl | exact Or.inr rfl) (pe_lst (pa_cons pe_str (pa_cons (pe_ix ix_tup (pv 0) pe_int (fun _ _ => rfl)) pa_nil))))
        (pss_cons (ps_for PassesOwn.never rfl (pi_zipA rfl T.b_zip (pa_cons (pe_glob (v := .ref C0) rfl T'.g_COLUMNS rfl) (pa_cons (pe_slice sl_tup (pv 0) (po_some pe_int) po_none) pa_nil))) (pg_tup rfl (pgs_cons (pg_tup rfl (pgs_cons (pg_name (i := 2) sc_line_of_field.nd rfl (by first | exact Or.inl rfl | exact Or.inr rfl)) (pgs_cons (pg_name (i := 3) sc_line_of_field.nd rfl (by first | exact Or.inl rfl | exact Or.inr rfl)) pgs_nil))) (pgs_cons (pg_name (i := 4) sc_line_of_field.nd rfl (by first | exact Or.inl rfl | exact Or.inr rfl)) pgs_nil))) (pss_one (ps_expr (pe_bm PySem.F.plainAttrs_list PySem.F.slot_list_extend PySem.F.type_list_extend mt_extend (pv 1) (pa_cons (pe_ifExp (pt_cmpR op_eq (pv 2) pe_str (nomark _)) (pe_lst (pa_cons (pv 4) pa_nil)) (pe_lst (pa_cons (pv 2) (pa_cons (pv 4) pa_nil)))) pa_nil)))))
        (pss_one (ps_ret (pe_op op_add_str (pe_join pe_str (pv 1)) pe_str))))), ?_⟩
    refine q_asgL (el_lst (ea_cons ev_c (ea_cons (ev_op (ev_var rfl) ev_c (rv_ixT (st_of ha) (atI_nat (j := 0) rfl))) ea_nil)) (by show 2 ≤ 100000; decide)) fun l H1 nl e1 hl => ?_
    dsimp only [L2.start, List.set]
    have ha1 := e1 _ _ ha
    refine ⟨_, rfl, (1 : Int), rfl, a, _, rfl, SqT.of ha1, ?_, fun p np => ?_⟩
    · rintro ⟨h1, _⟩
      rw [List.map_cons, sIx1] at h1
      cases h1
    have lp : min (ps.map fun z => V.ref z.1).length (r.map V.str).length = 6 := by rw [List.length_map, List.length_map, lps, hs.n]; rfl
    have hcut : cutV ((nm :: r).map V.str) (some 1) none = r.map V.str := cut1 _ _
    rw [hcut]
    have ep := Ex.new np (o := .tup (r.map V.str))
    have hp : (upd H1 p (.tup (r.map V.str))) p = some (.tup (r.map V.str)) := upd_same
    have hl2 := ep _ _ hl
    have nlp : p ≠ l := fun z => by rw [z, hl] at np; cases np
    have nl0 : H l = none := nl
    have e02 := Ex.trans e1 ep
    generalize upd H1 p (.tup (r.map V.str)) = H2 at ep hp hl2 e02
    have hbound : ∀ n, wgt ([("field" : Str), nm] ++ (((colN.zip r).take n).map fun z => stepW z.1 z.2).flatten) ≤ 2000 := fun n => by
      have h1 := wgt_flat (L := ((colN.zip r).take n).map fun z => stepW z.1 z.2) (m := 110) fun p hp => by
        obtain ⟨z, hz, rfl⟩ := List.mem_map.mp hp
        have hm := List.mem_of_mem_take hz
        have hc := List.of_mem_zip hm
        have hcl : ∀ c ∈ colN, c.length ≤ 4 := by decide +kernel
        have := hcl _ hc.1
        have := hs.b _ hc.2
        unfold stepW
        split <;> simp [wgt] <;> omega
      rw [List.length_map, List.length_take, List.length_zip] at h1
      have h6 : colN.length = 6 := rfl
      have hmm : min n (min colN.length r.length) ≤ 6 := by omega
      have h2 : wgt [("field" : Str), nm] ≤ 200 := by
        have := hs.k
        have h5 : ("field" : Str).length = 5 := rfl
        simp [wgt, h5]
        omega
      rw [wgt_app]
      have := Nat.mul_le_mul_right 110 hmm
      omega
    refine ⟨C0, p, _, _, rfl, .inr ⟨hC _, SqT.of hp, for_it (walk_zipT rfl) (fun i σ' H' => ∃ u2 u3 u4 : Option V, σ' = [some (.ref a), some (.ref l), u2, u3, u4] ∧ Ex H H' ∧ H' p = some (.tup (r.map V.str)) ∧ H' l = some (.lst (([("field" : Str), nm] ++ (((colN.zip r).take i).map fun z => stepW z.1 z.2).flatten).map V.str))) ⟨_, _, _, rfl, e02, hp, hl2⟩ (fun i σ' H' _ ⟨_, _, _, _, _, h, _⟩ => ⟨hC _, SqT.of h⟩) ?_ ?_⟩⟩
    · rintro i x σ' H3 H4 hi ⟨u2, u3, u4, rfl, e3, hp3, hl3⟩ ⟨tpa, x1, x2, rfl, nT, rfl, hx1, hx2⟩
      rw [lp] at hi
      obtain ⟨z, hz, rfl⟩ := map_inv1 hx1
      obtain ⟨wd, hwd, rfl⟩ := map_inv1 hx2
      obtain ⟨hz1, hzn, c, hc, hz2⟩ := hps i z hz
      have eT := Ex.new nT (o := .tup [.ref z.1, .str wd])
      refine ⟨tpa, _, rfl, SqT.of upd_same, rfl, _, _, rfl, ⟨z.1, _, rfl, hz1 _, rfl, _, _, rfl, _, _, rfl, rfl, _, _, rfl, rfl, ?_⟩⟩
      dsimp only [List.set]
      have hl4 := eT _ _ hl3
      have hp4 := eT _ _ hp3
      have e4 := Ex.trans e3 eT
      generalize upd H3 tpa (.tup [.ref z.1, .str wd]) = H4 at hl4 hp4 e4
      have el : EvL (tIf (tTest (tOp rEq (tVar 2) (tC (.str "kept")))) (tLst (tCons (tVar 4) tNil)) (tLst (tCons (tVar 2) (tCons (tVar 4) tNil)))) [some (.ref a), some (.ref l), some (.str z.2.1), some (.ref z.2.2), some (.str wd)] H4 ((stepW z.2.1 wd).map V.str) := by
        refine el_ite (b := decide (z.2.1 = "kept")) (et_is (et_test (ev_op (ev_var (v := .str z.2.1) rfl) ev_c (rv_eq rfl))) (by
          have e : (V.str z.2.1 = V.str "kept") = (z.2.1 = "kept") := propext ⟨V.str.inj, congrArg _⟩
          simp only [e])) (fun h => ?_) (fun h => ?_)
        · unfold stepW
          rw [if_pos (of_decide_eq_true h)]
          exact el_lst (ea_cons (ev_var rfl) ea_nil) (by show 1 ≤ 100000; decide)
        · unfold stepW
          rw [if_neg (of_decide_eq_false h)]
          exact el_lst (ea_cons (ev_var rfl) (ea_cons (ev_var rfl) ea_nil)) (by show 2 ≤ 100000; decide)
      refine ⟨_, rfl, .inl ⟨rfl, _, SqL.of hl4⟩, el H4 (Ex.refl _) _ fun b H5 nb e5 hb => ⟨l, b, _, _, rfl, rfl, e5 _ _ hl4, hb, sz_of ?_, ?_⟩⟩
      · have := hbound i
        have h2 : (stepW z.2.1 wd).length ≤ 2 := by unfold stepW; split <;> simp
        unfold wgt at this
        rw [List.length_map, List.length_map]
        omega
      · refine ⟨_, _, _, rfl, Ex.mut (Ex.trans e4 e5) nl0, ?_, ?_⟩
        · rw [upd_ne nlp]
          exact e5 _ _ hp4
        · rw [upd_same]
          have hzi : (colN.zip r)[i]? = some (z.2.1, wd) := List.getElem?_zip_eq_some.mpr ⟨hzn, hwd⟩
          rw [List.take_succ, hzi]
          simp
    · rintro σ' H3 ⟨u2, u3, u4, rfl, e3, hp3, hl3⟩
      have hw := hbound 6
      have hzl : (colN.zip r).length = 6 := by rw [List.length_zip, hs.n]; rfl
      have ht : (colN.zip r).take 6 = colN.zip r := List.take_of_length_le (by omega)
      rw [lp, ht] at hl3
      rw [ht] at hw
      have hj := join_lenQ (wordsF nm r)
      have h1 : (" " : Str).length = 1 := rfl
      have h2 : ("\n" : Str).length = 1 := rfl
      exact s_ret (ev_addS (ev_joinL ev_c (fun H1 e => ev_var rfl) hl3 (by rw [h1]; unfold wgt at hw; omega)) ev_c (by rw [h2]; unfold wordsF at hj; omega)) fun H4 e4 => k H4 (Ex.trans e3 e4)
/-- what is shown, as a line; a tuple -/
def spLnS : Sp := fun vs H Q _ => ∃ (a : Addr) (wy nm : Str), vs = [.ref a] ∧ H a = some (.tup [.str wy, .str nm]) ∧ wy.length ≤ 100 ∧ nm.length ≤ 100 ∧ ∀ H', Ex H H' → Q (.str (lineS wy nm)) H'
abbrev s_line_of_show : Stmt := top 20
theorem sc_line_of_show : FnScope ["show"] ["show"] (defScope s_line_of_show) := ⟨rfl, rfl, rfl, by decide +kernel, rfl, by decide +kernel, by decide +kernel⟩
theorem ok_line_s (F : L2.Fun K "line_of_show" "line_of_show" s_line_of_show f fd) (T : Blt mg) : FnOk P w K mg base CX0 1 f fd ["show"] spLnS := by
  refine F.ok sc_line_of_show (fun vs H Q E h => ?_) (fun cdv A outer s H vs Q E hr h => ?_)
  · obtain ⟨a, wy, nm, rfl, _⟩ := h
    rfl
  · obtain ⟨a, wy, nm, rfl, ha, h1, h2, k⟩ := h
    refine ⟨_, (pss_one (ps_ret (pe_joined (.cons pe_str (.cons (pe_fmt (pe_ix ix_tup (pv 0) pe_int (fun _ _ => rfl))) (.cons pe_str (.cons (pe_fmt (pe_ix ix_tup (pv 0) pe_int (fun _ _ => rfl))) (.cons pe_str .nil)))))))), ?_⟩
    have e0 : ((((Str.empty ++ ("show " : Str)) ++ wy) ++ (" " : Str)) ++ nm) ++ ("\n" : Str) = lineS wy nm := by
      refine ext_tl ?_
      unfold lineS wordsS
      rw [tl_app, tl_app, tl_app, tl_app, tl_app, tl_app, join_eq, tl_join, tl_sp]
      have e1 : tl ("show " : Str) = tl ("show" : Str) ++ [32] := by decide +kernel
      have e2 : tl Str.empty = [] := rfl
      rw [e1, e2]
      simp [joinL]
    have l0 : Str.empty.length = 0 := rfl
    have l5 : ("show " : Str).length = 5 := rfl
    have l1 : (" " : Str).length = 1 := rfl
    have l2 : ("\n" : Str).length = 1 := rfl
    refine ⟨"show ", rfl, sz_of (by rw [len_appQ, l0, l5]; decide), _, rfl, a, _, _, .str wy, rfl, rfl, st_of ha, atI_nat (j := 0) rfl, .inl ⟨wy, rfl, sz_of (by omega), wy, rfl, sz_of (by simp only [len_appQ, l0, l5]; omega), " ", rfl, sz_of (by simp only [len_appQ, l0, l5, l1]; omega), _, rfl, a, _, _, .str nm, rfl, rfl, st_of ha, atI_nat (j := 1) rfl, .inl ⟨nm, rfl, sz_of (by omega), nm, rfl, sz_of (by simp only [len_appQ, l0, l5, l1]; omega), "\n", rfl, sz_of (by simp only [len_appQ, l0, l5, l1, l2]; omega), ?_⟩⟩⟩
    rw [e0]
    exact k H (Ex.refl _)
end
end Lm

namespace Lm
open PySem L2 Evl RZ TL
/-! ### words of lines -/
theorem cols_free : ∀ c ∈ cols, ∀ w ∈ c, 32 ∉ tl w ∧ 10 ∉ tl w ∧ w.length ≤ 10 := by decide +kernel
theorem isW_free {x : Str} (h : isW x = true) : 32 ∉ tl x ∧ 10 ∉ tl x ∧ x.length ≤ 8 := by
  unfold isW at h
  rw [Bool.and_eq_true, Bool.and_eq_true] at h
  obtain ⟨⟨h1, h2⟩, h3⟩ := h
  have h4 : ∀ c ∈ tl x, 97 ≤ c ∧ c ≤ 122 := fun c hc => by simpa using List.all_eq_true.mp h3 c hc
  exact ⟨fun z => by have := h4 _ z; omega, fun z => by have := h4 _ z; omega, of_decide_eq_true h2⟩
theorem ways_free : ∀ c ∈ ways, 32 ∉ tl c ∧ 10 ∉ tl c ∧ c.length ≤ 10 := by decide +kernel
theorem colN_free : ∀ c ∈ colN, 32 ∉ tl c ∧ 10 ∉ tl c := by decide +kernel
theorem FldOk.free {nm : Str} {r : List Str} (h : FldOk nm r) : ∀ w ∈ r, 32 ∉ tl w ∧ 10 ∉ tl w ∧ w.length ≤ 10 := fun w hw => by
  obtain ⟨i, hi⟩ := List.mem_iff_getElem?.mp hw
  have hl := (List.getElem?_eq_some_iff.mp hi).1
  have hc6 : cols.length = 6 := rfl
  obtain ⟨c, hc⟩ : ∃ c, cols[i]? = some c := ⟨_, List.getElem?_eq_getElem (by rw [hc6]; rw [h.len] at hl; exact hl)⟩
  exact cols_free c (List.mem_of_getElem? hc) w (h.ok i w c hi hc)
theorem FldOk.sm {nm : Str} {r : List Str} (h : FldOk nm r) : RowSm nm r := ⟨by have := (isW_free h.wd).2.2; omega, h.len, fun x hx => by have := (h.free x hx).2.2; omega⟩
theorem wordsF_at (nm a b c d e f : Str) : wordsF nm [a, b, c, d, e, f] = ([("field" : Str), nm, "read", a, "jump", b, "anew", c, "give", d, "take", e, f] : List Str) := by
  have n1 : ¬ ("read" : Str) = "kept" := by decide +kernel
  have n2 : ¬ ("jump" : Str) = "kept" := by decide +kernel
  have n3 : ¬ ("anew" : Str) = "kept" := by decide +kernel
  have n4 : ¬ ("give" : Str) = "kept" := by decide +kernel
  have n5 : ¬ ("take" : Str) = "kept" := by decide +kernel
  unfold wordsF colN stepW
  simp [n1, n2, n3, n4, n5]
theorem six_of {r : List Str} (h : r.length = 6) : ∃ a b c d e f, r = [a, b, c, d, e, f] := by
  match r, h with
  | [a, b, c, d, e, f], _ => exact ⟨a, b, c, d, e, f, rfl⟩
theorem wordsF_free {nm : Str} {r : List Str} (h : FldOk nm r) : ∀ p ∈ wordsF nm r, 32 ∉ tl p ∧ 10 ∉ tl p := fun p hp => by
  have hn := isW_free h.wd
  have hf := h.free
  have cf := colN_free
  have f0 : 32 ∉ tl ("field" : Str) ∧ 10 ∉ tl ("field" : Str) := by decide +kernel
  unfold wordsF at hp
  rcases List.mem_append.mp hp with hp | hp
  · simp only [List.mem_cons, List.not_mem_nil, or_false] at hp
    rcases hp with rfl | rfl
    · exact f0
    · exact ⟨hn.1, hn.2.1⟩
  · obtain ⟨q, hq, hp⟩ := List.mem_flatten.mp hp
    obtain ⟨z, hz, rfl⟩ := List.mem_map.mp hq
    have hm := List.of_mem_zip hz
    have w2 := hf _ hm.2
    unfold stepW at hp
    split at hp
    · rw [List.mem_singleton.mp hp]
      exact ⟨w2.1, w2.2.1⟩
    · simp only [List.mem_cons, List.not_mem_nil, or_false] at hp
      rcases hp with rfl | rfl
      · exact cf _ hm.1
      · exact ⟨w2.1, w2.2.1⟩
theorem join_free {ps : List Str} (h : ∀ p ∈ ps, 10 ∉ tl p) : 10 ∉ tl (Txt.join " " ps) := by
  rw [join_eq, tl_join, tl_sp]
  have key : ∀ ps : List (List Nat), (∀ p ∈ ps, 10 ∉ p) → 10 ∉ joinL [32] ps := by
    intro ps
    induction ps with
    | nil => intro _ z; cases z
    | cons a r ih =>
      intro hp z
      by_cases hr : r = []
      · subst hr
        exact hp a (by simp) z
      · rw [joinL_cons hr] at z
        rcases List.mem_append.mp z with z | z
        · exact hp a (by simp) z
        · rcases List.mem_append.mp z with z | z
          · simp at z
          · exact ih (fun p h => hp p (by simp [h])) z
  refine key _ fun p hp => ?_
  obtain ⟨q, hq, rfl⟩ := List.mem_map.mp hp
  exact h q hq
theorem strip_join {ps : List Str} (h : ∀ p ∈ ps, 32 ∉ tl p ∧ 10 ∉ tl p) (h0 : ps ≠ []) : Txt.split (Txt.rstripChars (Txt.join " " ps ++ "\n") "\n") " " = ps := by
  rw [rstrip_nl (join_free fun p hp => (h p hp).2)]
  exact words_join h0 fun p hp => (h p hp).1
theorem wordsS_free {wy nm : Str} (hw : wy ∈ ways) (hn : isW nm = true) : ∀ p ∈ wordsS wy nm, 32 ∉ tl p ∧ 10 ∉ tl p := fun p hp => by
  have f0 : 32 ∉ tl ("show" : Str) ∧ 10 ∉ tl ("show" : Str) := by decide +kernel
  have h1 := ways_free wy hw
  have h2 := isW_free hn
  unfold wordsS at hp
  simp only [List.mem_cons, List.not_mem_nil, or_false] at hp
  rcases hp with rfl | rfl | rfl
  · exact f0
  · exact ⟨h1.1, h1.2.1⟩
  · exact ⟨h2.1, h2.2.1⟩
theorem wgt_join1 {ps : List Str} {n : Nat} (h : ∀ p ∈ ps, p.length ≤ n) : wgt ps ≤ ps.length * (n + 1) := by
  induction ps with
  | nil => simp [wgt]
  | cons a r ih =>
    have h1 := h a (by simp)
    have h2 := ih fun p hp => h p (by simp [hp])
    unfold wgt at h2 ⊢
    rw [List.map_cons, List.sum_cons, List.length_cons, Nat.succ_mul]
    omega
theorem pick_13 (a1 a2 a3 a4 a5 a6 a7 a8 a9 a10 a11 a12 a13 : V) : pickV [a1, a2, a3, a4, a5, a6, a7, a8, a9, a10, a11, a12, a13] (some 3) (some 12) (some 2) = [a4, a6, a8, a10, a12] := by
  unfold pickV
  have e : (sliceRange (sliceBounds (some 3) (some 12) (some 2) 13).1 (sliceBounds (some 3) (some 12) (some 2) 13).2.1 (sliceBounds (some 3) (some 12) (some 2) 13).2.2) = [3, 5, 7, 9, 11] := by decide +kernel
  show (sliceRange (sliceBounds (some 3) (some 12) (some 2) 13).1 (sliceBounds (some 3) (some 12) (some 2) 13).2.1 (sliceBounds (some 3) (some 12) (some 2) 13).2.2).filterMap _ = _
  rw [e]
  rfl
theorem pick_3 (a1 a2 a3 : V) : pickV [a1, a2, a3] (some 3) (some 12) (some 2) = [] := by
  unfold pickV
  have e : (sliceRange (sliceBounds (some 3) (some 12) (some 2) 3).1 (sliceBounds (some 3) (some 12) (some 2) 3).2.1 (sliceBounds (some 3) (some 12) (some 2) 3).2.2) = [] := by decide +kernel
  show (sliceRange (sliceBounds (some 3) (some 12) (some 2) 3).1 (sliceBounds (some 3) (some 12) (some 2) 3).2.1 (sliceBounds (some 3) (some 12) (some 2) 3).2.2).filterMap _ = _
  rw [e]
  rfl
end Lm

namespace Lm
open PySem L2 Evl RZ TL
/-! ### what is wrong with a row of texts -/
/-- a row of texts as a good field -/
def fldS : List Str → Bool
  | nm :: r => fldB nm r
  | [] => false
theorem fldB_iff {nm : Str} {r : List Str} : fldB nm r = true ↔ FldOk nm r := by
  refine ⟨fldB_ok, fun h => ?_⟩
  unfold fldB
  rw [h.wd, h.len, Bool.true_and, Bool.and_eq_true]
  refine ⟨rfl, List.all_eq_true.mpr fun z hz => decide_eq_true ?_⟩
  obtain ⟨i, hi⟩ := List.mem_iff_getElem?.mp hz
  obtain ⟨h1, h2⟩ := List.getElem?_zip_eq_some.mp hi
  exact h.ok i _ _ h1 h2
section
variable {P : Program} {w : World} {K : PySem.W.Frag} {mg : Str → Option Value} {base : Heap} {f : Addr} {fd : FuncData}
/-- any row of texts, a tuple, behind none -/
def spWrongT : Sp := fun vs H Q _ => ∃ (a l : Addr) (ws : List Str), vs = [.ref a, .ref l] ∧ H a = some (.tup (ws.map V.str)) ∧ H l = some (.lst []) ∧ (∀ x ∈ ws, x.cps.size ≤ 1000) ∧ (fldS ws = true → ∀ H', Ex H H' → Q .non H') ∧ (fldS ws = false → ∀ (x : Str) H', Ex H H' → Q (.str x) H')
theorem ok_wrong_t {C0 W0 fR fI : Addr} {fdR fdI : FuncData} {tM : Tok} (F : L2.Fun K "wrong_with" "wrong_with" s_wrong_with f fd) (T : Blt mg) (T' : RlCst mg C0 W0 tM) (CC : ColsN K C0) (D_is_row : DefOk P w K mg base 1 "is_row" fR fdR ["x"] spIsRow) (D_is_word : DefOk P w K mg base 1 "is_word" fI fdI ["x"] spIsWord) :
    FnOk P w K mg base CX0 2 f fd ["field", "names"] spWrongT := by
  refine F.ok sc_wrong_with (fun vs H Q E h => ?_) (fun cdv A outer s H vs Q E hr h => ?_)
  · obtain ⟨a, l, ws, rfl, _⟩ := h
    rfl
  · obtain ⟨a, l, ws, rfl, ha, hl, hsz, kY, kN⟩ := h
    obtain ⟨ps, lps, hC, hps⟩ := CC.ex
    refine ⟨_, (pss_cons (ps_if (PW.pt (pw_or (pt_cmpR op_eq (pe_callB call_len_seq (by rfl) T.b_len PySem.boot_len (pa_cons (pv 1) pa_nil)) (pe_glob (v := c_MOST_FIELDS) rfl T'.g_MOST_FIELDS ⟨_, rfl⟩) (nomark _)) (pw_or (pt_not (pt_val (pe_d D_is_row (hr.mono (by decide)) (pa_cons (pv 0) pa_nil)))) (pw_or1 (pt_cmpR op_ne (pe_callB call_len_seq (by rfl) T.b_len PySem.boot_len (pa_cons (pv 0) pa_nil)) (pe_op op_add pe_int (pe_callB call_len_seq (by rfl) T.b_len PySem.boot_len (pa_cons (pe_glob (v := .ref C0) rfl T'.g_COLUMNS rfl) pa_nil))) (nomark _)))))) (pss_one (ps_ret pe_str)) pss_nil)
        (pss_cons (ps_if (PW.pt (pw_or (pt_not (pt_val (pe_d D_is_word (hr.mono (by decide)) (pa_cons (pe_ix ix_seq (pv 0) pe_int (fun _ _ => rfl)) pa_nil)))) (pw_or1 (pt_cmpR op_in_seq (pe_ix ix_seq (pv 0) pe_int (fun _ _ => rfl)) (pv 1) (by rfl))))) (pss_one (ps_ret pe_str)) pss_nil)
        (pss_cons (ps_for PassesOwn.never rfl (pi_or (pi_zipN rfl T.b_zip (pa_cons (pe_glob (v := .ref C0) rfl T'.g_COLUMNS rfl) (pa_cons (pe_slice (SlR.or sl_list sl_tup) (pv 0) (po_some pe_int) po_none) pa_nil))) (pi_zipA rfl T.b_zip (pa_cons (pe_glob (v := .ref C0) rfl T'.g_COLUMNS rfl) (pa_cons (pe_slice (SlR.or sl_list sl_tup) (pv 0) (po_some pe_int) po_none) pa_nil)))) (pg_tup rfl (pgs_cons (pg_tup rfl (pgs_cons (pg_name (i := 2) sc_wrong_with.nd rfl (by first | exact Or.inl rfl | exact Or.inr rfl)) (pgs_cons (pg_name (i := 3) sc_wrong_with.nd rfl (by first | exact Or.inl rfl | exact Or.inr rfl)) pgs_nil))) (pgs_cons (pg_name (i := 4) sc_wrong_with.nd rfl (by first | exact Or.inl rfl | exact Or.inr rfl)) pgs_nil))) (pss_one (ps_if (pt_cmpR op_notIn_seq (pv 4) (pv 3) (by rfl)) (pss_one (ps_ret (pv 2))) pss_nil)))
        (pss_one (ps_ret pe_non))))), ?_⟩
    have eC : ∀ {σ : L2.St} {H1 : Hp}, Ev (tCB (rLenS K) (tCons (tC (.ref C0)) tNil)) σ H1 (.int 6) := fun {σ H1} H2 e2 Q q => ⟨C0, _, rfl, .inr (hC H2), by rw [List.length_map, lps]; exact q H2 (Ex.refl _)⟩
    have isr : Ev (tCall spIsRow [] E0 (tCons (tVar 0) tNil)) [some (.ref a), some (.ref l), none, none, none] H (.bl true) := fun H1 e1 Q q => ⟨_, rfl, a, _, rfl, .inr (e1 _ _ ha), fun H2 e2 => q H2 e2⟩
    have hb1 : (decide (V.int (([] : List V).length : Nat) = V.int 3) || (!true || !decide (V.int ((ws.map V.str).length : Nat) = V.int (1 + 6)))) = !decide (ws.length = 7) := by
      rw [List.length_map]
      by_cases h : ws.length = 7
      · rw [h]; decide
      · have h2 : ¬ V.int ((ws.length : Nat) : Int) = V.int (1 + 6) := fun z => h (by have := V.int.inj z; omega)
        rw [decide_eq_false h, decide_eq_false h2]
        simp
    refine q_when (b := !decide (ws.length = 7)) (et_is (et_or (et_test (ev_op (ev_lenL (xs := []) (ev_var rfl) hl) ev_c (rv_eq rfl))) fun _ => et_or (et_not (et_B isr)) fun _ => et_test (ev_op (ev_lenQ1 (xs := ws.map V.str) (ev_var rfl) (.inr ha)) (ev_op ev_c eC rv_I0) (rv_ne rfl))) hb1) (fun hb H1 e1 => ?_) (fun hb H1 e1 => ?_)
    · refine s_ret ev_c fun H2 e2 => kN ?_ "field" H2 (Ex.trans e1 e2)
      have h7 : ¬ ws.length = 7 := fun z => by rw [decide_eq_true z] at hb; cases hb
      cases ws with
      | nil => rfl
      | cons nm r =>
        show fldB nm r = false
        unfold fldB
        have : (r.length == 6) = false := by simp at h7 ⊢; omega
        rw [this, Bool.and_false, Bool.false_and]
    have h7 : ws.length = 7 := Decidable.byContradiction fun z => by rw [decide_eq_false z] at hb; cases hb
    obtain ⟨nm, r, rfl⟩ : ∃ nm r, ws = nm :: r := by
      cases ws with
      | nil => cases h7
      | cons a b => exact ⟨a, b, rfl⟩
    have hr6 : r.length = 6 := by simpa using h7
    have ha1 := e1 _ _ ha
    have hl1 := e1 _ _ hl
    have e0 : ∀ {H2 : Hp} {σ : L2.St}, Ex H1 H2 → σ[0]? = some (some (.ref a)) → Ev (tOp (rIx K) (tVar 0) (tC (.int 0))) σ H2 (.str nm) := fun e2 h0 => ev_op (ev_var h0) ev_c (rv_ixQ1 (n := 0) (.inr (e2 _ _ ha1)) rfl)
    have isw : Ev (tCall spIsWord [] E0 (tCons (tOp (rIx K) (tVar 0) (tC (.int 0))) tNil)) [some (.ref a), some (.ref l), none, none, none] H1 (.bl (isW nm)) := fun H2 e2 Q q => e0 e2 rfl H2 (Ex.refl _) _ fun H3 e3 => ⟨nm, rfl, hsz nm (by simp), fun H4 e4 => q H4 (Ex.trans e3 e4)⟩
    refine q_when (b := !isW nm) (et_is (et_or (et_not (et_B isw)) fun _ => et_test (ev_op (e0 (Ex.refl _) rfl) (ev_var rfl) (rv_isL (sq_of hl1) rfl rfl))) (by show (!isW nm || false) = !isW nm; simp)) (fun hb H2 e2 => ?_) (fun hb H2 e2 => ?_)
    · refine s_ret ev_c fun H3 e3 => kN ?_ "name" H3 (Ex.trans e1 (Ex.trans e2 e3))
      show fldB nm r = false
      unfold fldB
      have : isW nm = false := by simpa using hb
      rw [this, Bool.false_and, Bool.false_and]
    have hnm : isW nm = true := by simpa using hb
    have e02 := Ex.trans e1 e2
    have ha2 := e2 _ _ ha1
    have cols6 : cols.length = 6 := rfl
    have lm : min (ps.map fun z => V.ref z.1).length (r.map V.str).length = 6 := by rw [List.length_map, List.length_map, lps, hr6]; rfl
    refine .inr ⟨_, rfl, (1 : Int), rfl, .inr ⟨a, _, rfl, SqT.of ha2, ?_, fun p np => ?_⟩⟩
    · rintro ⟨h1, _⟩
      rw [List.map_cons, sIx1] at h1
      cases h1
    rw [List.map_cons, cut1]
    have ep := Ex.new np (o := .tup (r.map V.str))
    refine ⟨C0, p, _, _, rfl, .inr ⟨hC _, SqT.of upd_same, for_it (walk_zipT rfl) (fun i σ' H' => ∃ u2 u3 u4 : Option V, σ' = [some (.ref a), some (.ref l), u2, u3, u4] ∧ Ex (upd H2 p (.tup (r.map V.str))) H' ∧ ∀ j < i, ∀ wd c, r[j]? = some wd → cols[j]? = some c → wd ∈ c) ⟨_, _, _, rfl, Ex.refl _, fun j hj => absurd hj (Nat.not_lt_zero _)⟩ (fun i σ' H' _ ⟨_, _, _, _, e, _⟩ => ⟨hC _, SqT.of (e _ _ upd_same)⟩) ?_ ?_⟩⟩
    · rintro i x σ' H3 H4 hi ⟨u2, u3, u4, rfl, e, hpre⟩ ⟨tpa, x1, x2, rfl, nT, rfl, hx1, hx2⟩
      rw [lm] at hi
      obtain ⟨z, hz, rfl⟩ := map_inv1 hx1
      obtain ⟨wd, hwd, rfl⟩ := map_inv1 hx2
      obtain ⟨hz1, hzn, c, hc, hz2⟩ := hps i z hz
      have eT := Ex.new nT (o := .tup [.ref z.1, .str wd])
      refine ⟨tpa, _, rfl, SqT.of upd_same, rfl, _, _, rfl, ⟨z.1, _, rfl, hz1 _, rfl, _, _, rfl, _, _, rfl, rfl, _, _, rfl, rfl, ?_⟩⟩
      dsimp only [List.set]
      have e4 := Ex.trans e eT
      refine s_when (b := !decide (wd ∈ c)) (et_test fun H5 e5 Q q => ⟨_, rfl, _, rfl, z.2.2, c.map V.str, rfl, .inr (hz2 _), rfl, strs_flat1 _, by
        show Q (.bl (!inV (.str wd) (c.map V.str))) H5
        rw [strs_in1]
        exact q H5 (Ex.refl _)⟩) (fun hb H5 e5 => ?_) (fun hb H5 e5 => ⟨_, _, _, rfl, Ex.trans e4 e5, fun j hj wd' c' h1 h2 => ?_⟩)
      · have hnin : ¬ wd ∈ c := fun h => by rw [decide_eq_true h] at hb; cases hb
        refine s_ret (ev_var rfl) fun H6 e6 => kN ?_ z.2.1 H6 (Ex.trans e02 (Ex.trans ep (Ex.trans e4 (Ex.trans e5 e6))))
        cases h : fldS (nm :: r) with
        | false => rfl
        | true => exact absurd ((fldB_ok h).ok i wd c hwd hc) hnin
      · rcases Nat.lt_or_ge j i with q | q
        · exact hpre j q wd' c' h1 h2
        · have : j = i := by omega
          subst this
          rw [hwd] at h1
          rw [hc] at h2
          cases h1
          cases h2
          exact Decidable.byContradiction fun h => by rw [decide_eq_false h] at hb; cases hb
    · rintro σ' H3 ⟨u2, u3, u4, rfl, e, hpre⟩
      rw [lm] at hpre
      have hgood : fldS (nm :: r) = true := by
        show fldB nm r = true
        refine fldB_iff.mpr ⟨hnm, hr6, fun i wd c h1 h2 => hpre i ?_ wd c h1 h2⟩
        have := (List.getElem?_eq_some_iff.mp h2).1
        omega
      exact s_ret (σ := [some (.ref a), some (.ref l), u2, u3, u4]) (D := { nx := fun _ H' => Q .non H', rt := Q }) ev_c fun H4 e4 => kY hgood H4 (Ex.trans e02 (Ex.trans ep (Ex.trans e e4)))
end
end Lm

namespace Lm
open PySem L2 Evl RZ TL
def lnOf (nl : Bool) (l : Str) : Str := if nl = true then l ++ "\n" else l
/-- the words of a line that a field is made of -/
def pickS (ws : List Str) : List Str := (sliceRange (sliceBounds (some 3) (some 12) (some 2) ws.length).1 (sliceBounds (some 3) (some 12) (some 2) ws.length).2.1 (sliceBounds (some 3) (some 12) (some 2) ws.length).2.2).filterMap (ws[·]?)
theorem pickS_len (ws : List Str) : (pickS ws).length ≤ ws.length := by
  unfold pickS
  refine Nat.le_trans (List.length_filterMap_le _ _) (PySem.sliceRange_length_le _ _ _ _ (fun hc => ?_) fun hc => absurd (show (2 : Int) > 0 by decide) hc)
  constructor
  · show (0 : Int) ≤ max 0 (min 3 (ws.length : Int))
    omega
  · show max (0 : Int) (min 12 (ws.length : Int)) ≤ ws.length
    omega
theorem pickV_S (ws : List Str) : pickV (ws.map V.str) (some 3) (some 12) (some 2) = (pickS ws).map V.str := by
  unfold pickV pickS
  rw [List.length_map]
  generalize sliceRange _ _ _ = ns
  induction ns with
  | nil => rfl
  | cons n r ih =>
    rw [List.filterMap_cons, List.filterMap_cons, List.getElem?_map]
    cases ws[n]? with
    | none => exact ih
    | some x => rw [List.map_cons, ← ih]; rfl
def fieldS (ws : List Str) : List Str := (ws.drop 1).take 1 ++ (pickS ws ++ ws.drop 12)
theorem fieldS_at {nm : Str} {r : List Str} (h : r.length = 6) : fieldS (wordsF nm r) = nm :: r := by
  obtain ⟨a, b, c, d, e, f, rfl⟩ := six_of h
  rw [wordsF_at]
  have e : (sliceRange (sliceBounds (some 3) (some 12) (some 2) 13).1 (sliceBounds (some 3) (some 12) (some 2) 13).2.1 (sliceBounds (some 3) (some 12) (some 2) 13).2.2) = [3, 5, 7, 9, 11] := by decide +kernel
  unfold fieldS pickS
  show _ ++ ((sliceRange (sliceBounds (some 3) (some 12) (some 2) 13).1 (sliceBounds (some 3) (some 12) (some 2) 13).2.1 (sliceBounds (some 3) (some 12) (some 2) 13).2.2).filterMap _ ++ _) = _
  rw [e]
  rfl
theorem pickS_mem {ws : List Str} : ∀ x ∈ pickS ws, x ∈ ws := fun x hx => by
  obtain ⟨n, _, hn⟩ := List.mem_filterMap.mp hx
  exact List.mem_of_getElem? hn
theorem fieldS_mem {ws : List Str} : ∀ x ∈ fieldS ws, x ∈ ws := fun x hx => by
  unfold fieldS at hx
  rcases List.mem_append.mp hx with hx | hx
  · exact List.mem_of_mem_drop (List.mem_of_mem_take hx)
  · rcases List.mem_append.mp hx with hx | hx
    · exact pickS_mem x hx
    · exact List.mem_of_mem_drop hx
theorem fldS_ok {ws : List Str} (h : fldS ws = true) : ∃ nm r, ws = nm :: r ∧ FldOk nm r := by
  cases ws with
  | nil => cases h
  | cons a b => exact ⟨a, b, rfl, fldB_ok h⟩
theorem lineF_iff {nl : Bool} {l nm : Str} {r : List Str} (h : FldOk nm r) (h10 : 10 ∉ tl l) : lineF nm r = lnOf nl l ↔ nl = true ∧ wordsOf l = wordsF nm r := by
  constructor
  · intro e
    cases nl with
    | false =>
      have := congrArg tl e
      unfold lineF at this
      rw [tl_app, tl_nl] at this
      exact absurd (show (10 : Nat) ∈ tl l by have e2 : lnOf false l = l := rfl; rw [e2] at this; rw [← this]; simp) h10
    | true =>
      have e2 : Txt.join " " (wordsF nm r) = l := app_nl_inj e
      refine ⟨rfl, ?_⟩
      rw [← e2]
      exact words_join (by unfold wordsF; simp) fun p hp => (wordsF_free h p hp).1
  · rintro ⟨rfl, e⟩
    show Txt.join " " (wordsF nm r) ++ "\n" = l ++ "\n"
    rw [← e, join_words]
theorem cutV_12 (xs : List V) : cutV xs (some 1) (some 2) = (xs.drop 1).take 1 := by
  unfold cutV
  have h1 : HT.sIx xs.length 0 (some 1) = min 1 xs.length := HT.sIx_nat _ _ 1
  have h2 : HT.sIx xs.length xs.length (some 2) = min 2 xs.length := HT.sIx_nat _ _ 2
  rw [h1, h2]
  match xs with
  | [] => rfl
  | [x] => simp
  | x :: y :: r => simp
theorem cutV_fr (xs : List V) : cutV xs (some 12) none = xs.drop 12 := by
  unfold cutV
  have h1 : HT.sIx xs.length 0 (some 12) = min 12 xs.length := HT.sIx_nat _ _ 12
  rw [h1, HT.sIx_none]
  rcases Nat.le_total 12 xs.length with h | h
  · rw [Nat.min_eq_left h]
    exact List.take_of_length_le (by rw [List.length_drop]; exact Nat.le_refl _)
  · rw [Nat.min_eq_right h, List.drop_of_length_le h, List.drop_length]
    simp
section
variable {P : Program} {w : World} {K : PySem.W.Frag} {mg : Str → Option Value} {base : Heap} {f : Addr} {fd : FuncData}
theorem ev_isN {σ : L2.St} {H : Hp} {te : TE} {x : V} (h : Ev te σ H x) : Ev (tOp rIsN te (tC .non)) σ H (.bl (decide (x = .non))) := fun H1 e1 Q q => h H1 e1 _ fun H2 e2 => ⟨rfl, q H2 e2⟩
theorem eu_field {σ : L2.St} {H : Hp} {p : Addr} {xs : List V} (hi : σ[1]? = some (some (.ref p))) (hp : H p = some (.lst xs)) (hz1 : (pickV xs (some 3) (some 12) (some 2)).length ≤ 100000) (hz : (cutV xs (some 1) (some 2) ++ (pickV xs (some 3) (some 12) (some 2) ++ (cutV xs (some 12) none ++ []))).length ≤ 100000) :
    EvU (tTup (StX.tStar K (tSl (rSlL K) (tVar 1) (tPart (tC (.int 1))) (tPart (tC (.int 2)))) (StX.tStar K (tSlSt K (tVar 1) (tPart (tC (.int 3))) (tPart (tC (.int 12))) (tPart (tC (.int 2)))) (StX.tStar K (tSl (rSlL K) (tVar 1) (tPart (tC (.int 12))) tNoPart) tNil)))) σ H (cutV xs (some 1) (some 2) ++ (pickV xs (some 3) (some 12) (some 2) ++ (cutV xs (some 12) none ++ []))) := fun H1 e Q q => by
  have hp1 := e _ _ hp
  refine (el_sl (K := K) (ev_var hi) (eo_some ev_c) (eo_some ev_c) (SqL.of hp1)) H1 (Ex.refl _) _ fun D1 H2 nD1 e2 h1 => ⟨D1, _, rfl, .inr (SqL.of h1), ?_⟩
  have hp2 := e2 _ _ hp1
  refine ⟨_, hi, 3, rfl, 12, rfl, 2, rfl, p, xs, rfl, SqL.of hp2, by decide, sz_of hz1, fun D2 nD2 => ⟨D2, _, rfl, .inr (SqL.of upd_same), ?_⟩⟩
  have e3 := Ex.new nD2 (o := .lst (pickV xs (some 3) (some 12) (some 2)))
  refine (el_sl (K := K) (ev_var hi) (eo_some ev_c) eo_none (SqL.of (e3 _ _ hp2))) _ (Ex.refl _) _ fun D3 H4 nD3 e4 h4 => ⟨D3, _, rfl, .inr (SqL.of h4), sz_of hz, fun t nt => q t _ (fresh_back (Ex.trans e2 (Ex.trans e3 e4)) nt) (Ex.trans (Ex.trans e2 (Ex.trans e3 e4)) (Ex.new nt)) upd_same⟩
/-- any line with or without its line feed -/
def spFieldAny : Sp := fun vs H Q _ => ∃ (nl : Bool) (l : Str), vs = [.str (lnOf nl l)] ∧ 10 ∉ tl l ∧ l.length ≤ 900 ∧ (∀ nm r, nl = true → FldOk nm r → wordsOf l = wordsF nm r → ∀ p H', H p = none → Ex H H' → H' p = some (.tup ((nm :: r).map V.str)) → Q (.ref p) H') ∧
  ((∀ nm r, nl = true → FldOk nm r → ¬ wordsOf l = wordsF nm r) → ∀ H', Ex H H' → Q .non H')
abbrev s_field_of_line : Stmt := top 21
theorem sc_field_of_line : FnScope ["line", "parts", "field"] ["line"] (defScope s_field_of_line) := ⟨rfl, rfl, rfl, by decide +kernel, rfl, by decide +kernel, by decide +kernel⟩
theorem ok_field_any {fW fL : Addr} {dW dL : FuncData} (F : L2.Fun K "field_of_line" "field_of_line" s_field_of_line f fd) (T : Blt mg) (D_wrong_with : DefOk P w K mg base 2 "wrong_with" fW dW ["field", "names"] spWrongT) (D_line_of_field : DefOk P w K mg base 1 "line_of_field" fL dL ["field"] spLnF) :
    FnOk P w K mg base CX0 3 f fd ["line"] spFieldAny := by
  refine F.ok sc_field_of_line (fun vs H Q E h => ?_) (fun cdv A outer s H vs Q E hr h => ?_)
  · obtain ⟨nl, l, rfl, _⟩ := h
    rfl
  · obtain ⟨nl, l, rfl, h10, hl, kS, kN⟩ := h
    refine ⟨_, (pss_cons (ps_set (i := 1) sc_field_of_line.nd rfl (by first | exact Or.inl rfl | exact Or.inr rfl) (pe_split (pe_m1 PySem.F.slot_str_rstrip PySem.F.type_str_rstrip mt_rstripChars (pv 0) pe_str) pe_str))
        (pss_cons (ps_set (i := 2) sc_field_of_line.nd rfl (by first | exact Or.inl rfl | exact Or.inr rfl) (pe_tup (StX.pa_star (pe_slice sl_list (pv 1) (po_some pe_int) (po_some pe_int)) (StX.pa_star (pe_slSt (pv 1) (po_some pe_int) (po_some pe_int) (po_some pe_int)) (StX.pa_star (pe_slice sl_list (pv 1) (po_some pe_int) po_none) pa_nil)))))
        (pss_cons (ps_if (PW.pt (pw_and (pt_cmpR op_isN1 (pe_d D_wrong_with (hr.mono (by decide)) (pa_cons (pv 2) (pa_cons (pe_lst pa_nil) pa_nil))) pe_non (nomark _)) (pw_and1 (pt_cmpR op_eq (pe_d D_line_of_field (hr.mono (by decide)) (pa_cons (pv 2) pa_nil)) (pv 0) (nomark _))))) (pss_one (ps_ret (pv 2))) pss_nil)
        (pss_one (ps_ret pe_non))))), ?_⟩
    have hLl : (lnOf nl l).length ≤ 901 := by
      unfold lnOf
      split
      · rw [len_appQ]
        have : ("\n" : Str).length = 1 := rfl
        omega
      · omega
    have hstr : Txt.rstripChars (lnOf nl l) "\n" = l := by
      unfold lnOf
      split
      · exact rstrip_nl h10
      · exact rstrip_free h10
    refine ⟨_, rfl, ⟨_, rfl⟩, _, _, rfl, rfl, sz_of (by omega), ⟨_, rfl⟩, l, " ", by rw [hstr], rfl, rfl, sz_of (by omega), fun p np => ?_⟩
    have hsp : Txt.split l " " = wordsOf l := rfl
    rw [hsp]
    dsimp only [gName, L2.start, List.set]
    have e1 := Ex.new np (o := .lst ((wordsOf l).map V.str))
    have hp : (upd H p (.lst ((wordsOf l).map V.str))) p = some (.lst ((wordsOf l).map V.str)) := upd_same
    generalize upd H p (.lst ((wordsOf l).map V.str)) = H1 at e1 hp
    have hwc := words_count l
    have hall : cutV ((wordsOf l).map V.str) (some 1) (some 2) ++ (pickV ((wordsOf l).map V.str) (some 3) (some 12) (some 2) ++ (cutV ((wordsOf l).map V.str) (some 12) none ++ [])) = (fieldS (wordsOf l)).map V.str := by
      rw [cutV_12, pickV_S, cutV_fr, List.append_nil]
      unfold fieldS
      rw [List.map_append, List.map_append, List.map_take, List.map_drop, List.map_drop]
    have hpl := pickS_len (wordsOf l)
    have hfl : (fieldS (wordsOf l)).length ≤ 3000 := by
      unfold fieldS
      simp only [List.length_append, List.length_take, List.length_drop]
      omega
    have eu := eu_field (K := K) (σ := [some (.str (lnOf nl l)), some (.ref p), none]) (H := H1) rfl hp (by rw [pickV_S, List.length_map]; omega) (by rw [hall, List.length_map]; omega)
    rw [hall] at eu
    refine q_asgU eu fun t H2 nt e2 ht => ?_
    have e02 := Ex.trans e1 e2
    have hsz : ∀ x ∈ fieldS (wordsOf l), x.cps.size ≤ 1000 := fun x hx => by
      have := words_len l x (fieldS_mem x hx)
      show x.length ≤ 1000
      omega
    cases hb : fldS (fieldS (wordsOf l)) with
    | true =>
      obtain ⟨nm, r, hnr, hf⟩ := fldS_ok hb
      have evw : Ev (tCall spWrongT [] E0 (tCons (tVar 2) (tCons (tLst tNil) tNil))) [some (.str (lnOf nl l)), some (.ref p), some (.ref t)] H2 .non := fun H3 e3 Q q => ⟨_, rfl, by show 0 ≤ sizeLine; decide, fun ll nll => ⟨t, ll, fieldS (wordsOf l), rfl, Ex.new nll _ _ (e3 _ _ ht), upd_same, hsz, fun _ H4 e4 => q H4 (Ex.trans (Ex.new nll) e4), fun h => absurd (hb.symm.trans h) (by decide)⟩⟩
      rw [hnr] at ht
      have evl : Ev (tCall spLnF [] E0 (tCons (tVar 2) tNil)) [some (.str (lnOf nl l)), some (.ref p), some (.ref t)] H2 (.str (lineF nm r)) := fun H3 e3 Q q => ⟨_, rfl, t, nm, r, rfl, e3 _ _ ht, hf.sm, fun H4 e4 => q H4 e4⟩
      refine q_when (b := decide (lineF nm r = lnOf nl l)) (et_is (et_and (et_is (et_test (ev_isN evw)) (decide_eq_true rfl)) fun _ => et_test (ev_op evl (ev_var rfl) (rv_eq rfl))) (by
        have e : (V.str (lineF nm r) = V.str (lnOf nl l)) = (lineF nm r = lnOf nl l) := propext ⟨V.str.inj, congrArg _⟩
        simp only [e, Bool.true_and])) (fun h H3 e3 => ?_) (fun h H3 e3 => ?_)
      · have h2 := (lineF_iff hf h10).mp (of_decide_eq_true h)
        exact s_ret (ev_var rfl) fun H4 e4 => kS nm r h2.1 hf h2.2 t H4 (fresh_back e1 nt) (Ex.trans e02 (Ex.trans e3 e4)) (Ex.trans e3 e4 _ _ ht)
      · refine s_ret ev_c fun H4 e4 => kN (fun nm' r' h1 hf' hw => ?_) H4 (Ex.trans e02 (Ex.trans e3 e4))
        have hfs := fieldS_at (nm := nm') hf'.len
        rw [← hw, hnr] at hfs
        obtain ⟨rfl, rfl⟩ := List.cons.inj hfs
        exact of_decide_eq_false h ((lineF_iff hf h10).mpr ⟨h1, hw⟩)
    | false =>
      have kN2 : ∀ H', Ex H H' → Q .non H' := kN fun nm' r' h1 hf' hw => by
        have hfs := fieldS_at (nm := nm') hf'.len
        rw [← hw] at hfs
        rw [hfs] at hb
        have : fldS (nm' :: r') = true := fldB_iff.mpr hf'
        rw [this] at hb
        cases hb
      have ets : EvT (tTest (tOp rIsN (tCall spWrongT [] E0 (tCons (tVar 2) (tCons (tLst tNil) tNil))) (tC .non))) [some (.str (lnOf nl l)), some (.ref p), some (.ref t)] H2 false := fun H3 e3 Q q => ⟨_, rfl, by show 0 ≤ sizeLine; decide, fun ll nll => ⟨t, ll, fieldS (wordsOf l), rfl, Ex.new nll _ _ (e3 _ _ ht), upd_same, hsz, (fun h => absurd (hb.symm.trans h) (by decide)), fun _ x H4 e4 => ⟨rfl, false, by rw [decide_eq_false fun z => nomatch z], q H4 (Ex.trans (Ex.new nll) e4)⟩⟩⟩
      exact q_when (b := false) (et_and (b := true) ets fun h => nomatch h) (fun z => nomatch z) fun _ H3 e3 => s_ret ev_c fun H4 e4 => kN2 H4 (Ex.trans e02 (Ex.trans e3 e4))
end
end Lm

namespace Lm
open PySem L2 Evl RZ TL
/-! ### what is shown, of any line -/
def pairB (ws : List Str) : Bool := decide (ws.length = 2) && (decide (ws.getD 0 "" ∈ ways) && isW (ws.getD 1 ""))
theorem pairB_ok {ws : List Str} (h : pairB ws = true) : ∃ wy nm, ws = [wy, nm] ∧ wy ∈ ways ∧ isW nm = true := by
  unfold pairB at h
  rw [Bool.and_eq_true, Bool.and_eq_true] at h
  obtain ⟨h1, h2, h3⟩ := h
  match ws, of_decide_eq_true h1 with
  | [a, b], _ => exact ⟨a, b, rfl, of_decide_eq_true h2, h3⟩
theorem pairB_at {wy nm : Str} (hw : wy ∈ ways) (hn : isW nm = true) : pairB [wy, nm] = true := by
  show (decide ((2 : Nat) = 2) && (decide (wy ∈ ways) && isW nm)) = true
  rw [decide_eq_true hw, hn]
  rfl
theorem lineS_iff {nl : Bool} {l wy nm : Str} (hw : wy ∈ ways) (hn : isW nm = true) (h10 : 10 ∉ tl l) : lineS wy nm = lnOf nl l ↔ nl = true ∧ wordsOf l = wordsS wy nm := by
  constructor
  · intro e
    cases nl with
    | false =>
      have := congrArg tl e
      unfold lineS at this
      rw [tl_app, tl_nl] at this
      exact absurd (show (10 : Nat) ∈ tl l by have e2 : lnOf false l = l := rfl; rw [e2] at this; rw [← this]; simp) h10
    | true =>
      have e2 : Txt.join " " (wordsS wy nm) = l := app_nl_inj e
      refine ⟨rfl, ?_⟩
      rw [← e2]
      exact words_join (by unfold wordsS; simp) fun p hp => (wordsS_free hw hn p hp).1
  · rintro ⟨rfl, e⟩
    show Txt.join " " (wordsS wy nm) ++ "\n" = l ++ "\n"
    rw [← e, join_words]
section
variable {P : Program} {w : World} {K : PySem.W.Frag} {mg : Str → Option Value} {base : Heap} {f : Addr} {fd : FuncData}
def spPairAny : Sp := fun vs H Q _ => ∃ (a : Addr) (ws : List Str), vs = [.ref a] ∧ H a = some (.tup (ws.map V.str)) ∧ (∀ x ∈ ws, x.cps.size ≤ 1000) ∧ ∀ H', Ex H H' → Q (.bl (pairB ws)) H'
theorem ok_pair_any {C0 W0 fR fI : Addr} {fdR fdI : FuncData} {tM : Tok} (F : L2.Fun K "is_pair_shown" "is_pair_shown" s_is_pair_shown f fd) (T : Blt mg) (T' : RlCst mg C0 W0 tM) (hW : ∀ H, SqT K H W0 (ways.map V.str)) (D_is_row : DefOk P w K mg base 1 "is_row" fR fdR ["x"] spIsRow) (D_is_word : DefOk P w K mg base 1 "is_word" fI fdI ["x"] spIsWord) :
    FnOk P w K mg base CX0 2 f fd ["show"] spPairAny := by
  refine F.ok sc_is_pair_shown (fun vs H Q E h => ?_) (fun cdv A outer s H vs Q E hr h => ?_)
  · obtain ⟨a, ws, rfl, _⟩ := h
    rfl
  · obtain ⟨a, ws, rfl, ha, hsz, k⟩ := h
    refine ⟨_, (pss_one (ps_ret (pe_and (pe_d D_is_row (hr.mono (by decide)) (pa_cons (pv 0) pa_nil)) (pe_and (pe_cmpR op_eq (pe_callB call_len_seq (by rfl) T.b_len PySem.boot_len (pa_cons (pv 0) pa_nil)) pe_int (nomark _)) (pe_and (pe_cmpR op_in_seq (pe_ix ix_seq (pv 0) pe_int (fun _ _ => rfl)) (pe_glob (v := .ref W0) rfl T'.g_WAYS rfl) (by rfl)) (pe_one (pe_d D_is_word (hr.mono (by decide)) (pa_cons (pe_ix ix_seq (pv 0) pe_int (fun _ _ => rfl)) pa_nil)))))))), ?_⟩
    have isr : Ev (tCall spIsRow [] E0 (tCons (tVar 0) tNil)) [some (.ref a)] H (.bl true) := fun H1 e1 Q q => ⟨_, rfl, a, _, rfl, .inr (e1 _ _ ha), fun H2 e2 => q H2 e2⟩
    have ix : ∀ {H1 : Hp} (i : Nat), ws.length = 2 → i < 2 → Ex H H1 → Ev (tOp (rIx K) (tVar 0) (tC (.int (i : Nat)))) [some (.ref a)] H1 (.str (ws.getD i "")) := fun i h2 hi e => ev_op (ev_var rfl) ev_c (rv_ixQ1 (.inr (e _ _ ha)) (by
      rw [List.getElem?_map, List.getD_eq_getElem?_getD, List.getElem?_eq_getElem (by omega)]
      rfl))
    have inw : ws.length = 2 → Ev (tOp (rIn K false) (tOp (rIx K) (tVar 0) (tC (.int 0))) (tC (.ref W0))) [some (.ref a)] H (.bl (decide (ws.getD 0 "" ∈ ways))) := fun h2 H1 e1 Q q => ix 0 h2 (by decide) e1 H1 (Ex.refl _) _ fun H2 e2 => ⟨W0, ways.map V.str, rfl, .inr (hW H2), rfl, strs_flat1 _, by
      show Q (.bl (inV (.str _) (ways.map V.str))) H2
      rw [strs_in1]
      exact q H2 e2⟩
    have isw : ws.length = 2 → Ev (tCall spIsWord [] E0 (tCons (tOp (rIx K) (tVar 0) (tC (.int 1))) tNil)) [some (.ref a)] H (.bl (isW (ws.getD 1 ""))) := fun h2 H1 e1 Q q => ix 1 h2 (by decide) e1 H1 (Ex.refl _) _ fun H2 e2 => ⟨ws.getD 1 "", rfl, hsz _ (by
      rw [List.getD_eq_getElem?_getD, List.getElem?_eq_getElem (by omega)]
      exact List.getElem_mem _), fun H3 e3 => q H3 (Ex.trans e2 e3)⟩
    have hln : decide (V.int ((ws.map V.str).length : Nat) = V.int 2) = decide (ws.length = 2) := by
      have : (V.int ((ws.map V.str).length : Nat) = V.int 2) = (ws.length = 2) := propext ⟨fun z => by have := V.int.inj z; rw [List.length_map] at this; omega, fun z => by rw [List.length_map, z]; rfl⟩
      simp only [this]
    exact s_ret (ev_is (ev_andV isr fun _ => ev_andV (ev_is (ev_op (ev_lenQ1 (xs := ws.map V.str) (ev_var rfl) (.inr ha)) ev_c (rv_eq rfl)) (congrArg V.bl hln)) fun h => ev_andV (inw (of_decide_eq_true h)) fun _ => isw (of_decide_eq_true h)) (by unfold pairB; rw [Bool.true_and])) fun H1 e1 => k H1 e1
def spShowAny : Sp := fun vs H Q _ => ∃ (nl : Bool) (l : Str), vs = [.str (lnOf nl l)] ∧ 10 ∉ tl l ∧ l.length ≤ 900 ∧ (∀ wy nm, nl = true → wy ∈ ways → isW nm = true → wordsOf l = wordsS wy nm → ∀ p H', H p = none → Ex H H' → H' p = some (.tup [.str wy, .str nm]) → Q (.ref p) H') ∧
  ((∀ wy nm, nl = true → wy ∈ ways → isW nm = true → ¬ wordsOf l = wordsS wy nm) → ∀ H', Ex H H' → Q .non H')
abbrev s_show_of_line : Stmt := top 22
theorem sc_show_of_line : FnScope ["line", "show"] ["line"] (defScope s_show_of_line) := ⟨rfl, rfl, rfl, by decide +kernel, rfl, by decide +kernel, by decide +kernel⟩
theorem ok_show_any {fW fL : Addr} {dW dL : FuncData} (F : L2.Fun K "show_of_line" "show_of_line" s_show_of_line f fd) (T : Blt mg) (D_is_pair_shown : DefOk P w K mg base 2 "is_pair_shown" fW dW ["show"] spPairAny) (D_line_of_show : DefOk P w K mg base 1 "line_of_show" fL dL ["show"] spLnS) :
    FnOk P w K mg base CX0 3 f fd ["line"] spShowAny := by
  refine F.ok sc_show_of_line (fun vs H Q E h => ?_) (fun cdv A outer s H vs Q E hr h => ?_)
  · obtain ⟨nl, l, rfl, _⟩ := h
    rfl
  · obtain ⟨nl, l, rfl, h10, hl, kS, kN⟩ := h
    refine ⟨_, (pss_cons (ps_set (i := 1) sc_show_of_line.nd rfl (by first | exact Or.inl rfl | exact Or.inr rfl) (pe_callTy call_tuple_of (by rfl) T.b_tuple (by decide +kernel) (pa_cons (pe_slice sl_list (pe_split (pe_m1 PySem.F.slot_str_rstrip PySem.F.type_str_rstrip mt_rstripChars (pv 0) pe_str) pe_str) (po_some pe_int) po_none) pa_nil)))
        (pss_cons (ps_if (PW.pt (pw_and (pt_val (pe_d D_is_pair_shown (hr.mono (by decide)) (pa_cons (pv 1) pa_nil))) (pw_and1 (pt_cmpR op_eq (pe_d D_line_of_show (hr.mono (by decide)) (pa_cons (pv 1) pa_nil)) (pv 0) (nomark _))))) (pss_one (ps_ret (pv 1))) pss_nil)
        (pss_one (ps_ret pe_non)))), ?_⟩
    have hLl : (lnOf nl l).length ≤ 901 := by
      unfold lnOf
      split
      · rw [len_appQ]
        have : ("\n" : Str).length = 1 := rfl
        omega
      · omega
    have hstr : Txt.rstripChars (lnOf nl l) "\n" = l := by
      unfold lnOf
      split
      · exact rstrip_nl h10
      · exact rstrip_free h10
    refine ⟨_, rfl, ⟨_, rfl⟩, _, _, rfl, rfl, sz_of (by omega), ⟨_, rfl⟩, l, " ", by rw [hstr], rfl, rfl, sz_of (by omega), fun p np => ?_⟩
    have hsp : Txt.split l " " = wordsOf l := rfl
    rw [hsp]
    have e1 := Ex.new np (o := .lst ((wordsOf l).map V.str))
    have hp : (upd H p (.lst ((wordsOf l).map V.str))) p = some (.lst ((wordsOf l).map V.str)) := upd_same
    generalize upd H p (.lst ((wordsOf l).map V.str)) = H1 at e1 hp
    refine ⟨(1 : Int), rfl, p, _, rfl, SqL.of hp, fun D nD => ⟨D, _, rfl, .inl ⟨SqL.of upd_same, fun t nt => ?_⟩⟩⟩
    obtain ⟨k0, fs, hw⟩ : ∃ k fs, wordsOf l = k :: fs := by
      cases h : wordsOf l with
      | nil => exact absurd h (words_ne l)
      | cons a b => exact ⟨a, b, rfl⟩
    have hcut : cutV ((wordsOf l).map V.str) (some 1) none = fs.map V.str := by rw [hw]; exact cut1 _ _
    rw [hcut] at nt ⊢
    have e2 := Ex.trans (Ex.new nD (o := .lst (fs.map V.str))) (Ex.new nt (o := .tup (fs.map V.str)))
    have ht : (upd (upd H1 D (.lst (fs.map V.str))) t (.tup (fs.map V.str))) t = some (.tup (fs.map V.str)) := upd_same
    have nt0 : H t = none := fresh_back (Ex.trans e1 (Ex.new nD)) nt
    generalize upd (upd H1 D (.lst (fs.map V.str))) t (.tup (fs.map V.str)) = H2 at e2 ht
    dsimp only [gName, L2.start, List.set]
    have e02 := Ex.trans e1 e2
    have hsz : ∀ x ∈ fs, x.cps.size ≤ 1000 := fun x hx => by
      have := words_len l x (by rw [hw]; simp [hx])
      show x.length ≤ 1000
      omega
    have evp : Ev (tCall spPairAny [] E0 (tCons (tVar 1) tNil)) [some (.str (lnOf nl l)), some (.ref t)] H2 (.bl (pairB fs)) := fun H3 e3 Q q => ⟨_, rfl, t, fs, rfl, e3 _ _ ht, hsz, fun H4 e4 => q H4 e4⟩
    cases hb : pairB fs with
    | true =>
      obtain ⟨wy, nm, rfl, hwy, hnm⟩ := pairB_ok hb
      rw [hb] at evp
      have evl : Ev (tCall spLnS [] E0 (tCons (tVar 1) tNil)) [some (.str (lnOf nl l)), some (.ref t)] H2 (.str (lineS wy nm)) := fun H3 e3 Q q => ⟨_, rfl, t, wy, nm, rfl, e3 _ _ ht, by have := (ways_free wy hwy).2.2; omega, by have := (isW_free hnm).2.2; omega, fun H4 e4 => q H4 e4⟩
      refine q_when (b := decide (lineS wy nm = lnOf nl l)) (et_is (et_and (et_B evp) fun _ => et_test (ev_op evl (ev_var rfl) (rv_eq rfl))) (by
        have e : (V.str (lineS wy nm) = V.str (lnOf nl l)) = (lineS wy nm = lnOf nl l) := propext ⟨V.str.inj, congrArg _⟩
        simp only [e, Bool.true_and])) (fun h H3 e3 => ?_) (fun h H3 e3 => ?_)
      · have h2 := (lineS_iff hwy hnm h10).mp (of_decide_eq_true h)
        exact s_ret (ev_var rfl) fun H4 e4 => kS wy nm h2.1 hwy hnm h2.2 t H4 nt0 (Ex.trans e02 (Ex.trans e3 e4)) (Ex.trans e3 e4 _ _ ht)
      · refine s_ret ev_c fun H4 e4 => kN (fun wy' nm' h1 hw' hn' hq => ?_) H4 (Ex.trans e02 (Ex.trans e3 e4))
        rw [hw] at hq
        unfold wordsS at hq
        simp only [List.cons.injEq, and_true] at hq
        obtain ⟨q1, rfl, rfl⟩ := hq
        exact of_decide_eq_false h ((lineS_iff hwy hnm h10).mpr ⟨h1, by rw [hw, q1]; rfl⟩)
    | false =>
      rw [hb] at evp
      refine q_when (b := false) (et_and (b := true) (et_B evp) fun h => nomatch h) (fun z => nomatch z) fun _ H3 e3 => s_ret ev_c fun H4 e4 => kN (fun wy' nm' h1 hw' hn' hq => ?_) H4 (Ex.trans e02 (Ex.trans e3 e4))
      rw [hw] at hq
      unfold wordsS at hq
      have : fs = [wy', nm'] := (List.cons.inj hq).2
      rw [this, pairB_at hw' hn'] at hb
      cases hb
end
end Lm

namespace Lm
open PySem L2 Evl RZ TL
section
variable {P : Program} {w : World} {K : PySem.W.Frag} {mg : Str → Option Value} {base : Heap} {f : Addr} {fd : FuncData}
abbrev s_BadRule_init : Stmt := inClass (top 9) 0
theorem sc_BadRule_init : FnScope ["self", "index", "reason"] ["self", "index", "reason"] (defScope s_BadRule_init) := ⟨rfl, rfl, rfl, by decide +kernel, rfl, by decide +kernel, by decide +kernel⟩
theorem ok_bad_rule {C : Addr} (F : Fun K "__init__" "BadRule.__init__" s_BadRule_init f fd) (T : OexC K C) (n1 : PySem.W.findIn K (.ref C) "index" = some none) (n2 : PySem.W.findIn K (.ref C) "reason" = some none) : FnOk P w K mg base CX0 1 f fd ["self", "index", "reason"] (spErrI2 C "index" "reason") := by
  refine F.ok sc_BadRule_init (fun vs H Q E h => ?_) (fun cdv A outer s H vs Q E hr h => ?_)
  · obtain ⟨a, v1, v2, rfl, _⟩ := h
    rfl
  · obtain ⟨a, v1, v2, rfl, ha, k⟩ := h
    refine ⟨_, (pss_cons (ps_ost (pv 0) (pv 1) rfl) (pss_one (ps_ost (pv 0) (pv 2) rfl))), ?_⟩
    exact ⟨_, rfl, _, rfl, a, C, rfl, T, n1, .inl ⟨ha, fun dx ndx hda => ⟨_, rfl, _, rfl, a, C, rfl, T, n2, .inr ⟨dx, [("index", v1)], upd_same, by rw [upd_ne hda]; exact upd_same, by show 1 ≤ 900; decide, k dx ndx hda⟩⟩⟩⟩
/-- a good field whose name was there before -/
def spWrongDup : Sp := fun vs H Q _ => ∃ (a l : Addr) (nm : Str) (r names : List Str), vs = [.ref a, .ref l] ∧ SeqAt H a ((nm :: r).map V.str) ∧ FldOk nm r ∧ H l = some (.lst (names.map V.str)) ∧ names.length < 3 ∧ nm ∈ names ∧ ∀ H', Ex H H' → Q (.str "name") H'
theorem ok_wrong_dup {C0 W0 fR fI : Addr} {fdR fdI : FuncData} {tM : Tok} (F : L2.Fun K "wrong_with" "wrong_with" s_wrong_with f fd) (T : Blt mg) (T' : RlCst mg C0 W0 tM) (CC : ColsAt K C0) (D_is_row : DefOk P w K mg base 1 "is_row" fR fdR ["x"] spIsRow) (D_is_word : DefOk P w K mg base 1 "is_word" fI fdI ["x"] spIsWord) :
    FnOk P w K mg base CX0 2 f fd ["field", "names"] spWrongDup := by
  refine F.ok sc_wrong_with (fun vs H Q E h => ?_) (fun cdv A outer s H vs Q E hr h => ?_)
  · obtain ⟨a, l, nm, r, names, rfl, _⟩ := h
    rfl
  · obtain ⟨a, l, nm, r, names, rfl, ha, hf, hl, hn, hnn, k⟩ := h
    obtain ⟨ps, lps, hC, hps⟩ := CC.ex
    refine ⟨_, (pss_cons (ps_if (PW.pt (pw_or (pt_cmpR op_eq (pe_callB call_len_seq (by rfl) T.b_len PySem.boot_len (pa_cons (pv 1) pa_nil)) (pe_glob (v := c_MOST_FIELDS) rfl T'.g_MOST_FIELDS ⟨_, rfl⟩) (nomark _)) (pw_or (pt_not (pt_val (pe_d D_is_row (hr.mono (by decide)) (pa_cons (pv 0) pa_nil)))) (pw_or1 (pt_cmpR op_ne (pe_callB call_len_seq (by rfl) T.b_len PySem.boot_len (pa_cons (pv 0) pa_nil)) (pe_op op_add pe_int (pe_callB call_len_seq (by rfl) T.b_len PySem.boot_len (pa_cons (pe_glob (v := .ref C0) rfl T'.g_COLUMNS rfl) pa_nil))) (nomark _)))))) (pss_one (ps_ret pe_str)) pss_nil)
        (pss_cons (ps_if (PW.pt (pw_or (pt_not (pt_val (pe_d D_is_word (hr.mono (by decide)) (pa_cons (pe_ix ix_seq (pv 0) pe_int (fun _ _ => rfl)) pa_nil)))) (pw_or1 (pt_cmpR op_in_seq (pe_ix ix_seq (pv 0) pe_int (fun _ _ => rfl)) (pv 1) (by rfl))))) (pss_one (ps_ret pe_str)) pss_nil)
        (pss_cons (ps_for PassesOwn.never rfl (pi_or (pi_zipN rfl T.b_zip (pa_cons (pe_glob (v := .ref C0) rfl T'.g_COLUMNS rfl) (pa_cons (pe_slice (SlR.or sl_list sl_tup) (pv 0) (po_some pe_int) po_none) pa_nil))) (pi_zipA rfl T.b_zip (pa_cons (pe_glob (v := .ref C0) rfl T'.g_COLUMNS rfl) (pa_cons (pe_slice (SlR.or sl_list sl_tup) (pv 0) (po_some pe_int) po_none) pa_nil)))) (pg_tup rfl (pgs_cons (pg_tup rfl (pgs_cons (pg_name (i := 2) sc_wrong_with.nd rfl (by first | exact Or.inl rfl | exact Or.inr rfl)) (pgs_cons (pg_name (i := 3) sc_wrong_with.nd rfl (by first | exact Or.inl rfl | exact Or.inr rfl)) pgs_nil))) (pgs_cons (pg_name (i := 4) sc_wrong_with.nd rfl (by first | exact Or.inl rfl | exact Or.inr rfl)) pgs_nil))) (pss_one (ps_if (pt_cmpR op_notIn_seq (pv 4) (pv 3) (by rfl)) (pss_one (ps_ret (pv 2))) pss_nil)))
        (pss_one (ps_ret pe_non))))), ?_⟩
    have eC : ∀ {σ : L2.St} {H1 : Hp}, Ev (tCB (rLenS K) (tCons (tC (.ref C0)) tNil)) σ H1 (.int 6) := fun {σ H1} H2 e2 Q q => ⟨C0, _, rfl, .inr (hC H2), by rw [List.length_map, lps]; exact q H2 (Ex.refl _)⟩
    have isr : Ev (tCall spIsRow [] E0 (tCons (tVar 0) tNil)) [some (.ref a), some (.ref l), none, none, none] H (.bl true) := fun H1 e1 Q q => ⟨_, rfl, a, _, rfl, seq_same ha e1, fun H2 e2 => q H2 e2⟩
    have lr : ((nm :: r).map V.str).length = 7 := by simp [hf.len]
    refine q_when (b := false) (et_is (et_or (et_test (ev_op (ev_lenL (ev_var rfl) hl) ev_c (rv_eq rfl))) fun _ => et_or (et_not (et_B isr)) fun _ => et_test (ev_op (ev_lenQ1 (ev_var rfl) ha) (ev_op ev_c eC rv_I0) (rv_ne rfl))) ?_) (fun z => nomatch z) fun _ H1 e1 => ?_
    · rw [lr, List.length_map]
      have : ¬ V.int (names.length : Int) = V.int 3 := fun z => by have := V.int.inj z; omega
      simp [this]
    have ha1 := seq_same ha e1
    have hl1 := e1 _ _ hl
    have e0 : ∀ {H2 : Hp} {σ : L2.St}, Ex H1 H2 → σ[0]? = some (some (.ref a)) → Ev (tOp (rIx K) (tVar 0) (tC (.int 0))) σ H2 (.str nm) := fun e2 h0 => ev_op (ev_var h0) ev_c (rv_ixQ1 (n := 0) (seq_same ha1 e2) rfl)
    have isw : Ev (tCall spIsWord [] E0 (tCons (tOp (rIx K) (tVar 0) (tC (.int 0))) tNil)) [some (.ref a), some (.ref l), none, none, none] H1 (.bl (isW nm)) := fun H2 e2 Q q => e0 e2 rfl H2 (Ex.refl _) _ fun H3 e3 => ⟨nm, rfl, isW_sz hf.wd, fun H4 e4 => q H4 (Ex.trans e3 e4)⟩
    refine q_when (b := true) (et_is (et_or (et_not (et_B isw)) fun _ => et_test (ev_op (e0 (Ex.refl _) rfl) (ev_var rfl) (rv_isL (sq_of hl1) rfl (strs_flat1 _)))) ?_) (fun _ H2 e2 => s_ret ev_c fun H3 e3 => k H3 (Ex.trans e1 (Ex.trans e2 e3))) (fun z => nomatch z)
    rw [hf.wd, strs_in1, decide_eq_true hnn]
    rfl
end
end Lm

namespace Lm
open PySem L2 Evl RZ TL
structure ErrI2 (P : Program) (w : World) (K : PySem.W.Frag) (mg : Str → Option Value) (base : Heap) (C fI : Addr) (fdI : FuncData) (f1 f2 : Str) : Prop where
  ok : FnOk P w K mg base CX0 1 fI fdI ["self", f1, f2] (spErrI2 C f1 f2)
  bd : Binds K fdI ["self", f1, f2] []
theorem pmk_errF2 {X : Cx} {x f1 f2 : Str} {C fI : Addr} {fdI : FuncData} {e1 e2 : Expr} {ta tb : TE} {p pos : Pos} (T : ErrF2 X.K X.mg x C fI f1 f2) (I : ErrI2 X.prog X.w X.K X.mg X.base C fI fdI f1 f2) (hr : Room 2 X.A) (ha : PA X [e1, e2] (tCons ta (tCons tb tNil))) (hg : Gl X x := by rfl) (hdb : (x == ("__debug__" : Str)) = false := by decide)
    (hst : starEach [e1, e2] X.env = (false, eval e1 X.env) :: starEach [e2] X.env := by rfl) (hpl : (backTo pos (starEach [e2] X.env)).any (·.1) = false := by rfl) : PMk X (.Call (.Name x p) [e1, e2] [] pos) (tMkO C (spErrI2 C f1 f2) [] (tCons ta (tCons tb tNil))) :=
  pmk_oex T.T T.ini T.ty I.ok hr I.bd .nil pass0 hg T.g ha hdb hst hpl
theorem ev_notN {σ : L2.St} {H : Hp} {te : TE} {x : V} (h : Ev te σ H x) : Ev (tOp rNotN te (tC .non)) σ H (.bl (!decide (x = .non))) := fun H1 e1 Q q => h H1 e1 _ fun H2 e2 => ⟨rfl, q H2 e2⟩
def spWrongE : Sp := fun vs H Q E => spWrongNo vs H Q E ∨ spWrongDup vs H Q E
section
variable {P : Program} {w : World} {K : PySem.W.Frag} {mg : Str → Option Value} {base : Heap} {f : Addr} {fd : FuncData}
/-- good fields, with a name twice -/
def spReqDup (C : Addr) : Sp := fun vs H _ E => ∃ (a : Addr) (xs : List V) (fs : List (Str × List Str)) (d : Nat) (nm : Str), vs = [.ref a] ∧ SeqAt H a xs ∧ RowsF H xs fs ∧ 0 < fs.length ∧ fs.length ≤ 3 ∧ (∀ z ∈ fs, FldOk z.1 z.2) ∧ (fs.map fun z => z.1)[d]? = some nm ∧ nm ∈ (fs.take d).map (fun z => z.1) ∧ ((fs.take d).map fun z => z.1).Nodup ∧
  ∀ H' dd, Ex H H' → H' dd = none → E (.ref C) (some dd) (upd H' dd (.xd [("reason", .str "name"), ("index", .int (d : Nat))]))
theorem ok_req_dup {C fR fW fI : Addr} {fdR fdW fdI : FuncData} (F : L2.Fun K "require_fields" "require_fields" s_require_fields f fd) (T : Blt mg) (TB : ErrF2 K mg "BadRule" C fI "index" "reason") (IB : ErrI2 P w K mg base C fI fdI "index" "reason") (D_is_row : DefOk P w K mg base 1 "is_row" fR fdR ["x"] spIsRow) (D_wrong_with : DefOk P w K mg base 2 "wrong_with" fW fdW ["field", "names"] spWrongE) :
    FnOk P w K mg base (L2.CX P w) 3 f fd ["fields"] (spReqDup C) := by
  refine F.okX sc_require_fields (fun vs H Q E h => ?_) (fun cdv A outer s H vs Q E hr h => ?_)
  · obtain ⟨a, xs, fs, d, nm, rfl, _⟩ := h
    rfl
  · obtain ⟨a, xs, fs, d, nm, rfl, ha, hR, l0, l3, hok, hd, hmem, hnd, k⟩ := h
    have lx := hR.len
    have hdl : d < fs.length := by have := (List.getElem?_eq_some_iff.mp hd).1; rw [List.length_map] at this; exact this
    refine ⟨_, (pss_cons (ps_if (PW.pt (pw_or (pt_not (pt_val (pe_d D_is_row (hr.mono (by decide)) (pa_cons (pv 0) pa_nil)))) (pw_or1 (pt_cmpR op_eq (pe_callB call_len_seq (by rfl) T.b_len PySem.boot_len (pa_cons (pv 0) pa_nil)) pe_int (nomark _))))) (pss_one ps_never) pss_nil)
        (pss_cons (ps_set (i := 1) sc_require_fields.nd rfl (by first | exact Or.inl rfl | exact Or.inr rfl) (pe_lst pa_nil))
        (pss_one (ps_for (passes_of rfl) rfl (pi_enumA rfl T.b_enumerate (pa_cons (pv 0) pa_nil)) (pg_tup rfl (pgs_cons (pg_name (i := 2) sc_require_fields.nd rfl (by first | exact Or.inl rfl | exact Or.inr rfl)) (pgs_cons (pg_name (i := 3) sc_require_fields.nd rfl (by first | exact Or.inl rfl | exact Or.inr rfl)) pgs_nil))) (pss_cons (ps_set (i := 4) sc_require_fields.nd rfl (by first | exact Or.inl rfl | exact Or.inr rfl) (pe_d D_wrong_with (hr.mono (by decide)) (pa_cons (pv 3) (pa_cons (pv 1) pa_nil))))
        (pss_cons (ps_if (pt_cmpR op_notN1 (pv 4) pe_non (nomark _)) (pss_one (ps_raise rfl (takes_of rfl rfl rfl rfl) (pmk_errF2 TB IB (hr.mono (by decide)) (pa_cons (pv 2) (pa_cons (pv 4) pa_nil))))) pss_nil)
        (pss_one (ps_expr (pe_bm PySem.F.plainAttrs_list PySem.F.slot_list_append PySem.F.type_list_append mt_append (pv 1) (pa_cons (pe_ix ix_seq (pv 3) pe_int (fun _ _ => rfl)) pa_nil)))))))))), ?_⟩
    have isr : Ev (tCall spIsRow [] E0 (tCons (tVar 0) tNil)) [some (.ref a), none, none, none, none] H (.bl true) := fun H1 e1 Q q => ⟨_, rfl, a, _, rfl, seq_same ha e1, fun H2 e2 => q H2 e2⟩
    refine q_when (b := false) (et_is (et_or (et_not (et_B isr)) fun _ => et_test (ev_op (ev_lenQ1 (ev_var rfl) ha) ev_c (rv_eq rfl))) ?_) (fun z => nomatch z) fun _ H1 e1 => ?_
    · have : ¬ V.int (xs.length : Int) = V.int 0 := fun z => by have := V.int.inj z; omega
      simp [this]
    refine q_asgL (el_lst ea_nil (by show 0 ≤ 100000; decide)) fun nl H2 nnl e2 hnl => ?_
    have e02 := Same.trans e1 e2
    have nnl0 : H nl = none := fresh_back e1 nnl
    dsimp only [L2.start, List.set]
    refine ⟨_, rfl, for_enumA1 (seq_same ha e02) (fun i σ' H' => i ≤ d ∧ ∃ u2 u3 u4 : Option V, σ' = [some (.ref a), some (.ref nl), u2, u3, u4] ∧ Same H H' ∧ H' nl = some (.lst (((fs.take i).map fun z => z.1).map V.str))) ⟨Nat.zero_le _, _, _, _, rfl, e02, hnl⟩ (fun i σ' H' _ ⟨_, _, _, _, _, e, _⟩ o ho => ?_) ?_ ?_⟩
    · rcases ha with h | h
      · rw [e02 _ _ h] at ho
        cases ho
        exact e _ _ h
      · rw [e02 _ _ h] at ho
        cases ho
        exact e _ _ h
    · rintro i x σ' H3 H4 hi ⟨hid, u2, u3, u4, rfl, e, hn⟩ ⟨tpa, x1, x2, rfl, nT, rfl, hx1, hx2⟩
      cases (Option.some.inj hx1)
      have hif : i < fs.length := by omega
      obtain ⟨z, hz⟩ : ∃ z, fs[i]? = some z := ⟨_, List.getElem?_eq_getElem hif⟩
      obtain ⟨p, hp, hsp⟩ := hR.at_ i _ hz
      have hx2 : xs[i]? = some x2 := hx2
      rw [hp] at hx2
      cases hx2
      have eT := Same.upd' nT (o := .tup [.int (i : Nat), .ref p])
      have e4 := Same.trans e eT
      have hn4 := eT _ _ hn
      refine ⟨tpa, _, rfl, SqT.of upd_same, rfl, _, _, rfl, _, _, rfl, rfl, ?_⟩
      dsimp only [List.set]
      generalize upd H3 tpa (.tup [.int (i : Nat), .ref p]) = H4 at e4 hn4 ⊢
      have hfz := hok z (List.mem_of_getElem? hz)
      have hlen3 : ((fs.take i).map fun z => z.1).length < 3 := by rw [List.length_map, List.length_take]; omega
      have hzn : (fs.map fun z => z.1)[i]? = some z.1 := by rw [List.getElem?_map, hz]; rfl
      rcases Nat.lt_or_ge i d with hlt | hge
      · have hnn : z.1 ∉ (fs.take i).map fun z => z.1 := fun h => by
          have ht : (fs.take d).map (fun z => z.1) = ((fs.take i).map fun z => z.1) ++ (((fs.take d).drop i).map fun z => z.1) := by
            rw [← List.map_append]
            congr 1
            have := List.take_append_drop i (fs.take d)
            rw [List.take_take, Nat.min_eq_left (Nat.le_of_lt hlt)] at this
            exact this.symm
          rw [ht] at hnd
          have hdis := (List.nodup_append.mp hnd).2.2
          refine hdis _ h _ ?_ rfl
          refine List.mem_map.mpr ⟨z, ?_, rfl⟩
          refine List.mem_of_getElem? (i := 0) ?_
          rw [List.getElem?_drop, List.getElem?_take_of_lt (by omega)]
          exact hz
        refine sq_go1 ⟨_, rfl, _, rfl, .inl ⟨p, nl, z.1, z.2, _, rfl, seq_same hsp e4, hfz, hn4, hlen3, hnn, fun H5 e5 => ?_⟩⟩
        dsimp only [gName, List.set]
        refine q_when (b := false) (et_is (et_test (ev_notN (x := .non) (ev_var rfl))) (by simp)) (fun z => nomatch z) fun _ H6 e6 => ?_
        have e46 := Same.trans e5 e6
        refine s_app (e46 _ _ hn4) (ev_var rfl) (ev_op (ev_var rfl) ev_c (rv_ixQ1 (n := 0) (seq_same (seq_same hsp e4) e46) rfl)) (by rw [List.length_map]; omega) fun H7 e7 => ?_
        refine ⟨hlt, _, _, _, rfl, Same.mut (Same.trans e4 (Same.trans e46 e7)) nnl0, ?_⟩
        rw [upd_same, List.take_succ, hz, List.map_append, List.map_append]
        rfl
      · have hid2 : i = d := by omega
        subst hid2
        have hnm : z.1 = nm := by rw [hzn] at hd; exact Option.some.inj hd
        refine sq_go1 ⟨_, rfl, _, rfl, .inr ⟨p, nl, z.1, z.2, _, rfl, seq_same hsp e4, hfz, hn4, hlen3, by rw [hnm]; exact hmem, fun H5 e5 => ?_⟩⟩
        dsimp only [gName, List.set]
        refine q_when (b := true) (et_is (et_test (ev_notN (x := .str "name") (ev_var rfl))) (by simp)) (fun _ H6 e6 => ?_) (fun z => nomatch z)
        exact go_mkO2 (ev_var rfl) (ev_var rfl) fun H7 dd e7 ndd => k H7 dd (Same.trans e4 (Same.trans e5 (Same.trans e6 e7))) ndd
    · rintro σ' H' ⟨hid, _⟩
      rw [lx] at hid
      omega
end
end Lm

namespace Lm
open PySem L2 Evl RZ TL
section
variable {P : Program} {w : World} {K : PySem.W.Frag} {mg : Str → Option Value} {base : Heap} {f : Addr} {fd : FuncData}
/-- good fields with a name twice make no rule -/
def spRlDup (C : Addr) : Sp := fun vs H _ E => ∃ (p a b : Addr) (xs : List V) (fs : List (Str × List Str)) (d : Nat) (nm : Str), vs = [.ref p, .ref a, .ref b] ∧ SeqAt H a xs ∧ RowsF H xs fs ∧ 0 < fs.length ∧ fs.length ≤ 3 ∧ (∀ z ∈ fs, FldOk z.1 z.2) ∧ (fs.map fun z => z.1)[d]? = some nm ∧ nm ∈ (fs.take d).map (fun z => z.1) ∧ ((fs.take d).map fun z => z.1).Nodup ∧
  ∀ H' dd, Ex H H' → H' dd = none → E (.ref C) (some dd) (upd H' dd (.xd [("reason", .str "name"), ("index", .int (d : Nat))]))
theorem ok_rl_dup {C fR fS : Addr} {fdR fdS : FuncData} (F : L2.Fun K "__init__" "Rule.__init__" s_Rule_init f fd) (T : Blt mg) (D_require_fields : DefOkX P w K mg base 3 "require_fields" fR fdR ["fields"] (spReqDup C)) (D_is_pair_shown : DefOk P w K mg base 2 "is_pair_shown" fS fdS ["show"] spPairS) :
    FnOk P w K mg base (L2.CX P w) 4 f fd ["self", "fields", "show"] (spRlDup C) := by
  refine F.okX sc_Rule_init (fun vs H Q E h => ?_) (fun cdv A outer s H vs Q E hr h => ?_)
  · obtain ⟨p, a, b, xs, fs, d, nm, rfl, _⟩ := h
    rfl
  · obtain ⟨p, a, b, xs, fs, d, nm, rfl, ha, hR, l0, l3, hok, hd, hmem, hnd, k⟩ := h
    refine ⟨_, (pss_cons (ps_expr (pe_dX D_require_fields (hr.mono (by decide)) (passes_call (takes_of rfl rfl rfl rfl) (fun _ _ _ _ h => h)) (pa_cons (pv 1) pa_nil)))
        (pss_cons (ps_setLc (i := 3) (own := [("field", 4)]) (g := gName 4) (tt := tYes) (te := (tOp (rIx K) (tVar 4) (tC (.int 0)))) rfl sc_Rule_init.nd rfl rfl (sw_true rfl rfl rfl (by decide +kernel)) (pi_or (pi_list (pv 1)) (pi_tup (pv 1))) (blkOk_by (own := [("field", 4)]) (by kernel_rfl)) (fun _ _ _ _ _ => (pg_name (i := 4) sc_Rule_init.nd rfl (by first | exact Or.inl rfl | exact Or.inr rfl))) (fun _ _ _ _ _ => pts_nil) (fun _ _ _ _ _ => by exact (pe_ix ix_seq (pv 4) pe_int (fun _ _ => rfl))))
        (pss_cons (ps_if (PW.pt (pw_or (pt_not (pt_val (pe_d D_is_pair_shown (hr.mono (by decide)) (pa_cons (pv 2) pa_nil)))) (pw_or1 (pt_cmpR op_notIn_seq (pe_ix ix_seq (pv 2) pe_int (fun _ _ => rfl)) (pv 3) (by rfl))))) (pss_one ps_never) pss_nil)
        (pss_cons (ps_fld (pv 0) (pe_callTy call_tuple_of (by rfl) T.b_tuple (by decide +kernel) (by exact (pa_cons (pe_lc (own := [("field", 4)]) (g := gName 4) (tt := tYes) (te := (tCB (rTupOf K) (tCons (tVar 4) tNil))) rfl sc_Rule_init.nd (pi_or (pi_list (pv 1)) (pi_tup (pv 1))) (blkOk_by (own := [("field", 4)]) (by kernel_rfl)) (fun _ _ _ _ _ => (pg_name (i := 4) sc_Rule_init.nd rfl (by first | exact Or.inl rfl | exact Or.inr rfl))) (fun _ _ _ _ _ => pts_nil) (fun _ _ _ _ _ => by exact (pe_callTy call_tuple_of (by rfl) T.b_tuple (by decide +kernel) (pa_cons (pv 4) pa_nil)))) pa_nil))) rfl)
        (pss_cons (ps_fld (pv 0) (pe_ix ix_seq (pv 2) pe_int (fun _ _ => rfl)) rfl)
        (pss_one (ps_fld (pv 0) (pe_bm PySem.F.plainAttrs_list PySem.F.slot_list_index PySem.F.type_list_index mt_index (pv 3) (pa_cons (pe_ix ix_seq (pv 2) pe_int (fun _ _ => rfl)) pa_nil)) rfl))))))), ?_⟩
    exact ⟨_, rfl, a, xs, fs, d, nm, rfl, ha, hR, l0, l3, hok, hd, hmem, hnd, fun H' dd e nd => k H' dd e nd⟩
/-- a rule that shows none of its fields -/
def spRlNoShow (C : Addr) : Sp := fun vs H _ E => ∃ (p a b : Addr) (xs : List V) (l : List (Addr × Str × List Str)) (wy nm : Str), vs = [.ref p, .ref a, .ref b] ∧ SeqAt H a xs ∧ RowsZ H xs l ∧ FsOk (fsOf l) ∧ SeqAt H b [.str wy, .str nm] ∧ wy ∈ ways ∧ isW nm = true ∧ nm ∉ (fsOf l).map (fun z => z.1) ∧
  ∀ H' dd, Ex H H' → H' dd = none → E (.ref C) (some dd) (upd H' dd (.xd [("reason", .str "show"), ("index", .non)]))
theorem ok_rl_noshow {C fR fS fI : Addr} {fdR fdS fdI : FuncData} (F : L2.Fun K "__init__" "Rule.__init__" s_Rule_init f fd) (T : Blt mg) (TB : ErrF2 K mg "BadRule" C fI "index" "reason") (IB : ErrI2 P w K mg base C fI fdI "index" "reason") (D_require_fields : DefOk P w K mg base 3 "require_fields" fR fdR ["fields"] spReqFields) (D_is_pair_shown : DefOk P w K mg base 2 "is_pair_shown" fS fdS ["show"] spPairS) :
    FnOk P w K mg base (L2.CX P w) 4 f fd ["self", "fields", "show"] (spRlNoShow C) := by
  refine F.okX sc_Rule_init (fun vs H Q E h => ?_) (fun cdv A outer s H vs Q E hr h => ?_)
  · obtain ⟨p, a, b, xs, l, wy, nm, rfl, _⟩ := h
    rfl
  · obtain ⟨p, a, b, xs, l, wy, nm, rfl, ha, hR, hf, hb, hw, nmW, hno, k⟩ := h
    refine ⟨_, (pss_cons (ps_expr (pe_d D_require_fields (hr.mono (by decide)) (pa_cons (pv 1) pa_nil)))
        (pss_cons (ps_setLc (i := 3) (own := [("field", 4)]) (g := gName 4) (tt := tYes) (te := (tOp (rIx K) (tVar 4) (tC (.int 0)))) rfl sc_Rule_init.nd rfl rfl (sw_true rfl rfl rfl (by decide +kernel)) (pi_or (pi_list (pv 1)) (pi_tup (pv 1))) (blkOk_by (own := [("field", 4)]) (by kernel_rfl)) (fun _ _ _ _ _ => (pg_name (i := 4) sc_Rule_init.nd rfl (by first | exact Or.inl rfl | exact Or.inr rfl))) (fun _ _ _ _ _ => pts_nil) (fun _ _ _ _ _ => by exact (pe_ix ix_seq (pv 4) pe_int (fun _ _ => rfl))))
        (pss_cons (ps_if (PW.pt (pw_or (pt_not (pt_val (pe_d D_is_pair_shown (hr.mono (by decide)) (pa_cons (pv 2) pa_nil)))) (pw_or1 (pt_cmpR op_notIn_seq (pe_ix ix_seq (pv 2) pe_int (fun _ _ => rfl)) (pv 3) (by rfl))))) (pss_one (ps_raise rfl (takes_of rfl rfl rfl rfl) (pmk_errF2 TB IB (hr.mono (by decide)) (pa_cons pe_non (pa_cons pe_str pa_nil))))) pss_nil)
        (pss_cons (ps_fld (pv 0) (pe_callTy call_tuple_of (by rfl) T.b_tuple (by decide +kernel) (by exact (pa_cons (pe_lc (own := [("field", 4)]) (g := gName 4) (tt := tYes) (te := (tCB (rTupOf K) (tCons (tVar 4) tNil))) rfl sc_Rule_init.nd (pi_or (pi_list (pv 1)) (pi_tup (pv 1))) (blkOk_by (own := [("field", 4)]) (by kernel_rfl)) (fun _ _ _ _ _ => (pg_name (i := 4) sc_Rule_init.nd rfl (by first | exact Or.inl rfl | exact Or.inr rfl))) (fun _ _ _ _ _ => pts_nil) (fun _ _ _ _ _ => by exact (pe_callTy call_tuple_of (by rfl) T.b_tuple (by decide +kernel) (pa_cons (pv 4) pa_nil)))) pa_nil))) rfl)
        (pss_cons (ps_fld (pv 0) (pe_ix ix_seq (pv 2) pe_int (fun _ _ => rfl)) rfl)
        (pss_one (ps_fld (pv 0) (pe_bm PySem.F.plainAttrs_list PySem.F.slot_list_index PySem.F.type_list_index mt_index (pv 3) (pa_cons (pe_ix ix_seq (pv 2) pe_int (fun _ _ => rfl)) pa_nil)) rfl))))))), ?_⟩
    have l3 := hf.l3
    have ll : (fsOf l).length = l.length := by unfold fsOf; rw [List.length_map]
    refine ⟨_, rfl, a, xs, fsOf l, rfl, ha, hR.f, hf, fun H1 e1 => ?_⟩
    have ha1 := seq_same ha e1
    rw [hR.1] at ha1
    dsimp only [L2.start]
    refine q_asgL (xs := (((fsOf l).map fun z => z.1).map V.str)) ?_ fun nl H2 nnl e2 hnl => ?_
    · have := el_mapS (K := K) (σ := [some (.ref p), some (.ref a), some (.ref b), none, none]) (H := H1) (te := (tOp (rIx K) (tVar 4) (tC (.int 0)))) (tl := tVar 1) (l := l) (f := fun z => V.ref z.1) (g := fun z => V.str z.2.1) (j := 4) (ev_var rfl) ha1 (by omega) fun x hx H2 e2 => ev_op (ev_var rfl) ev_c (rv_ixQ1 (n := 0) (seq_same (hR.2 x hx) (Same.trans e1 e2)) rfl)
      unfold fsOf
      rw [List.map_map, List.map_map]
      exact this
    have e02 := Same.trans e1 e2
    have isr : Ev (tCall spPairS [] E0 (tCons (tVar 2) tNil)) [some (.ref p), some (.ref a), some (.ref b), some (.ref nl), none] H2 (.bl true) := fun H3 e3 Q q => ⟨_, rfl, b, wy, nm, rfl, seq_same hb (Same.trans e02 e3), hw, nmW, fun H' e => q H' e⟩
    have inn : Ev (tOp (rIn K true) (tOp (rIx K) (tVar 2) (tC (.int 1))) (tVar 3)) [some (.ref p), some (.ref a), some (.ref b), some (.ref nl), none] H2 (.bl true) := ev_is (ev_op (ev_op (ev_var rfl) ev_c (rv_ixQ1 (n := 1) (seq_same hb e02) rfl)) (ev_var rfl) (rv_inL (neg := true) (sq_of hnl) rfl (strs_flat1 _))) (by
      rw [strs_in1, decide_eq_false hno]
      rfl)
    refine q_when (b := true) (et_is (et_or (et_not (et_B isr)) fun _ => et_test inn) rfl) (fun _ H3 e3 => ?_) (fun z => nomatch z)
    exact go_mkO2 ev_c ev_c fun H7 dd e7 ndd => k H7 dd (Same.trans e02 (Same.trans e3 e7)) ndd
end
end Lm

namespace Lm
open PySem L2 Evl RZ TL
/-! ### texts of deeds -/
/-- the lines ahead of the last one -/
def headL (x : Str) : List Str := (linesOf x).dropLast
def lastL (x : Str) : Str := (linesOf x).getLastD ""
theorem lines_eq (x : Str) : linesOf x = headL x ++ [lastL x] := by
  unfold headL lastL
  cases h : linesOf x with
  | nil => exact absurd h (lines_ne x)
  | cons a r =>
    rw [List.getLastD_eq_getLast?, List.getLast?_eq_some_getLast (by simp)]
    exact (List.dropLast_concat_getLast (by simp)).symm
/-- the lines with their line feeds -/
def fullL (x : Str) : List (Bool × Str) := (headL x).map (fun l => (true, l)) ++ if lastL x = "" then [] else [(false, lastL x)]
/-- short lines, and not too many -/
structure TxOk (x : Str) : Prop where
  len : x.length ≤ 10000
  ln : ∀ l ∈ linesOf x, l.length ≤ 900
theorem TxOk.full {x : Str} (h : TxOk x) : ∀ z ∈ fullL x, z.2.length ≤ 900 ∧ 10 ∉ tl z.2 := fun z hz => by
  have hm : z.2 ∈ linesOf x := by
    rw [lines_eq]
    unfold fullL at hz
    rcases List.mem_append.mp hz with hz | hz
    · obtain ⟨l, hl, rfl⟩ := List.mem_map.mp hz
      exact List.mem_append_left _ hl
    · split at hz
      · cases hz
      · rw [List.mem_singleton.mp hz]
        simp
  exact ⟨h.ln _ hm, lines_free x _ hm⟩
theorem TxOk.count {x : Str} (h : TxOk x) : (linesOf x).length ≤ 10001 := Nat.le_trans (lines_count x) (by have := h.len; omega)
theorem full_len (x : Str) : (fullL x).length ≤ (linesOf x).length := by
  rw [lines_eq]
  unfold fullL
  rw [List.length_append, List.length_append, List.length_map]
  split <;> simp
section
variable {K : PySem.W.Frag} {σ : L2.St} {H : Hp} {te : TE}
theorem ev_line {l : Str} {i : Nat} (hi : σ[i]? = some (some (.str l))) (hl : l.length ≤ 1000) : Ev (fun σ H Q => tJs [tFmt (tVar i), tC (.str "\n")] Str.empty σ H fun out H1 => Q (.str out) H1) σ H (.str (l ++ "\n")) := fun H1 e Q q => by
  have h1 : (Str.empty ++ l : Str) = l := ext_tl (by rw [tl_append]; rfl)
  have h2 : ("\n" : Str).length = 1 := rfl
  refine ⟨_, hi, .inl ⟨l, rfl, sz_of (by omega), l, rfl, by rw [h1]; exact sz_of (by omega), "\n", rfl, by rw [h1, len_appQ]; exact sz_of (by omega), ?_⟩⟩
  rw [h1]
  exact q H1 (Ex.refl _)
end
section
variable {P : Program} {w : World} {K : PySem.W.Frag} {mg : Str → Option Value} {base : Heap} {f : Addr} {fd : FuncData}
def spLines : Sp := fun vs H Q _ => ∃ x : Str, vs = [.str x] ∧ TxOk x ∧ ∀ p H', H p = none → Ex H H' → H' p = some (.lst ((fullL x).map fun z => V.str (lnOf z.1 z.2))) → Q (.ref p) H'
abbrev s_lines_of : Stmt := top 6
theorem sc_lines_of : FnScope ["text", "lines", "rest", "whole", "line"] ["text"] (defScope s_lines_of) := ⟨rfl, rfl, rfl, by decide +kernel, rfl, by decide +kernel, by decide +kernel⟩
theorem ok_lines_of (F : L2.Fun K "lines_of" "lines_of" s_lines_of f fd) : FnOk P w K mg base CX0 1 f fd ["text"] spLines := by
  refine F.ok sc_lines_of (fun vs H Q E h => ?_) (fun cdv A outer s H vs Q E hr h => ?_)
  · obtain ⟨x, rfl, _⟩ := h
    rfl
  · obtain ⟨x, rfl, hx, k⟩ := h
    refine ⟨_, (pss_cons (ps_asg (pe_split (pv 0) pe_str) (pg_star (n := 2) (i := 0) rfl (pgs_star (pg_name (i := 1) sc_lines_of.nd rfl (by first | exact Or.inl rfl | exact Or.inr rfl)) (pgs_cons (pg_name (i := 2) sc_lines_of.nd rfl (by first | exact Or.inl rfl | exact Or.inr rfl)) pgs_nil)) (by decide)))
        (pss_cons (ps_setLc (i := 3) (own := [("line", 4)]) (g := gName 4) (tt := tYes) (te := (fun σ H Q => tJs [(tFmt (tVar 4)), (tC (.str "\n"))] Str.empty σ H fun out H1 => Q (.str out) H1)) rfl sc_lines_of.nd rfl rfl (sw_true rfl rfl rfl (by decide +kernel)) (pi_list (pv 1)) (blkOk_by (own := [("line", 4)]) (by kernel_rfl)) (fun _ _ _ _ _ => (pg_name (i := 4) sc_lines_of.nd rfl (by first | exact Or.inl rfl | exact Or.inr rfl))) (fun _ _ _ _ _ => pts_nil) (fun _ _ _ _ _ => by exact (pe_joined (.cons (pe_fmt (pv 4)) (.cons pe_str .nil)))))
        (pss_one (ps_ret (pe_ifExp (pt_cmpR op_eq (pv 2) pe_str (nomark _)) (pv 3) (pe_lst (StX.pa_star (pv 3) (pa_cons (pv 2) pa_nil)))))))), ?_⟩
    have hlen := hx.len
    refine ⟨_, rfl, ⟨_, rfl⟩, x, "\n", rfl, rfl, rfl, sz_of (by omega), fun p np => ?_⟩
    have hsp : Txt.split x "\n" = headL x ++ [lastL x] := lines_eq x
    rw [hsp]
    refine ⟨p, _, rfl, SqL.of upd_same, by simp, fun L nL => ?_⟩
    have e1 : ((headL x ++ [lastL x]).map V.str).take 0 ++ [V.ref L] ++ (((headL x ++ [lastL x]).map V.str).drop 0).drop (((headL x ++ [lastL x]).map V.str).length - (2 - 1)) = [V.ref L, .str (lastL x)] := by
      rw [List.take_zero, List.drop_zero, List.map_append, List.length_append, List.length_map]
      show [] ++ [V.ref L] ++ _ = _
      rw [List.drop_append]
      simp
    have e2 : (((headL x ++ [lastL x]).map V.str).drop 0).take (((headL x ++ [lastL x]).map V.str).length - (2 - 1)) = (headL x).map V.str := by
      rw [List.drop_zero, List.map_append, List.length_append, List.length_map]
      exact List.take_left' (by simp)
    rw [e1, e2]
    refine ⟨_, _, rfl, _, _, rfl, rfl, ?_⟩
    dsimp only [L2.start, List.set]
    have s0 := Ex.new np (o := .lst ((headL x ++ [lastL x]).map V.str))
    have s1 := Ex.trans s0 (Ex.new nL (o := .lst ((headL x).map V.str)))
    have hL : (upd (upd H p (.lst ((headL x ++ [lastL x]).map V.str))) L (.lst ((headL x).map V.str))) L = some (.lst ((headL x).map V.str)) := upd_same
    generalize upd (upd H p (.lst ((headL x ++ [lastL x]).map V.str))) L (.lst ((headL x).map V.str)) = H1 at s1 hL
    have hc := hx.count
    have hcl : (headL x).length ≤ 10001 := by rw [lines_eq] at hc; simp at hc; omega
    have hl1 : ∀ l ∈ headL x, l.length ≤ 900 := fun l hl => hx.ln l (by rw [lines_eq]; exact List.mem_append_left _ hl)
    refine q_asgL (el_mapL (K := K) (σ := [some (.str x), some (.ref L), some (.str (lastL x)), none, none]) (H := H1) (tl := tVar 1) (l := headL x) (f := V.str) (g := fun l => V.str (l ++ "\n")) (j := 4) (ev_var rfl) hL (by omega) fun l hl H2 e2 => ev_line rfl (by have := hl1 l hl; omega)) fun D H2 nD e2 hD => ?_
    have s2 := Ex.trans s1 e2
    have nD0 : H D = none := fresh_back s1 nD
    refine ⟨_, rfl, rfl, _, rfl, ?_⟩
    have hfu : (fullL x).map (fun z => V.str (lnOf z.1 z.2)) = (headL x).map (fun l => V.str (l ++ "\n")) ++ if lastL x = "" then [] else [V.str (lastL x)] := by
      unfold fullL
      rw [List.map_append, List.map_map]
      split <;> rfl
    refine ite2 (fun h => ?_) (fun h => ?_)
    · have h : lastL x = "" := V.str.inj (of_decide_eq_true h)
      refine ⟨_, rfl, k D H2 nD0 s2 ?_⟩
      rw [hfu, if_pos h, List.append_nil]
      exact hD
    · have h : ¬ lastL x = "" := fun z => h (decide_eq_true (congrArg V.str z))
      refine ⟨_, rfl, D, _, rfl, .inr (SqL.of hD), _, rfl, sz_of (by simp; omega), fun t nt => k t _ (fresh_back s2 nt) (Ex.trans s2 (Ex.new nt)) ?_⟩
      rw [upd_same, hfu, if_neg h]

end
theorem lineF_len {nm : Str} {r : List Str} (h : FldOk nm r) : (lineF nm r).length ≤ 144 := by
  unfold lineF
  rw [len_appQ]
  obtain ⟨a, b, c, d, e, f, rfl⟩ := six_of h.len
  have h1 := join_lenQ (wordsF nm [a, b, c, d, e, f])
  have h2 := wgt_join1 (ps := wordsF nm [a, b, c, d, e, f]) (n := 10) fun p hp => by
    rw [wordsF_at] at hp
    have hn := (isW_free h.wd).2.2
    have hf : ∀ w ∈ [a, b, c, d, e, f], w.length ≤ 10 := fun w hw => (h.free w hw).2.2
    simp only [List.mem_cons, List.not_mem_nil, or_false] at hp hf
    rcases hp with rfl | rfl | rfl | rfl | rfl | rfl | rfl | rfl | rfl | rfl | rfl | rfl | rfl
    · decide +kernel
    · omega
    · decide +kernel
    · exact hf _ (.inl rfl)
    · decide +kernel
    · exact hf _ (.inr (.inl rfl))
    · decide +kernel
    · exact hf _ (.inr (.inr (.inl rfl)))
    · decide +kernel
    · exact hf _ (.inr (.inr (.inr (.inl rfl))))
    · decide +kernel
    · exact hf _ (.inr (.inr (.inr (.inr (.inl rfl)))))
    · exact hf _ (.inr (.inr (.inr (.inr (.inr rfl)))))
  have h3 : (wordsF nm [a, b, c, d, e, f]).length = 13 := by rw [wordsF_at]; rfl
  rw [h3] at h2
  have h4 : ("\n" : Str).length = 1 := rfl
  omega
theorem lineS_len {wy nm : Str} (hw : wy ∈ ways) (hn : isW nm = true) : (lineS wy nm).length ≤ 60 := by
  unfold lineS
  rw [len_appQ]
  have h1 := join_lenQ (wordsS wy nm)
  have w1 := (ways_free wy hw).2.2
  have w2 := (isW_free hn).2.2
  have h5 : ("show" : Str).length = 4 := rfl
  have h4 : ("\n" : Str).length = 1 := rfl
  have h2 : wgt (wordsS wy nm) ≤ 40 := by simp [wgt, wordsS, h5]; omega
  omega
end Lm

namespace Lm
open PySem L2 Evl RZ TL
/-- a value with a property is told -/
def EvP (te : TE) (σ : L2.St) (H : Hp) (Pr : V → Hp → Prop) : Prop := ∀ H1, Ex H H1 → ∀ Q : VK, (∀ v H2, Ex H1 H2 → Pr v H2 → Q v H2) → te σ H1 Q
def RowsQ (fs : List (Str × List Str)) : V → Hp → Prop := fun v H => ∃ a xs l, v = .ref a ∧ SeqAt H a xs ∧ RowsZ H xs l ∧ fsOf l = fs
def FldsQ (fs : List (Str × List Str)) : V → Hp → Prop := fun v H => ∃ a xs, v = .ref a ∧ H a = some (.lst xs) ∧ RowsT H xs fs
def ShowQ (wy nm : Str) : V → Hp → Prop := fun v H => ∃ b, v = .ref b ∧ SeqAt H b [.str wy, .str nm]
def ShowT (wy nm : Str) : V → Hp → Prop := fun v H => ∃ b, v = .ref b ∧ H b = some (.tup [.str wy, .str nm])
def RlQ (CR : Addr) (fs : List (Str × List Str)) (wy : Str) (i : Nat) : V → Hp → Prop := fun v H => ∃ p, v = .ref p ∧ RlAt CR H p fs wy i
theorem rowsT_z {H : Hp} {xs : List V} {fs : List (Str × List Str)} (h : RowsT H xs fs) : ∃ l, RowsZ H xs l ∧ fsOf l = fs := by
  obtain ⟨ts, hxs, lts, hts⟩ := h
  refine ⟨ts.zip fs, ⟨?_, fun z hz => ?_⟩, ?_⟩
  · rw [hxs]
    refine List.ext_getElem? fun n => ?_
    rw [List.getElem?_map, List.getElem?_map]
    rcases Nat.lt_or_ge n ts.length with q | q
    · rw [List.getElem?_eq_getElem q]
      have : (ts.zip fs)[n]? = some (ts[n], fs[n]'(by omega)) := by rw [List.getElem?_zip_eq_some]; exact ⟨List.getElem?_eq_getElem _, List.getElem?_eq_getElem _⟩
      rw [this]
      rfl
    · rw [List.getElem?_eq_none q, List.getElem?_eq_none (by rw [List.length_zip]; omega)]
      rfl
  · obtain ⟨n, hn⟩ := List.mem_iff_getElem?.mp hz
    obtain ⟨q1, q2⟩ := List.getElem?_zip_eq_some.mp hn
    exact .inr (hts n _ _ q2 q1)
  · unfold fsOf
    exact List.map_snd_zip (by omega)
theorem FldsQ.rows {fs : List (Str × List Str)} {v : V} {H : Hp} (h : FldsQ fs v H) : RowsQ fs v H := let ⟨a, xs, h1, h2, h3⟩ := h; let ⟨l, h4, h5⟩ := rowsT_z h3; ⟨a, xs, l, h1, .inl h2, h4, h5⟩
theorem RowsQ.ex {fs : List (Str × List Str)} {v : V} {H H' : Hp} (h : RowsQ fs v H) (e : Ex H H') : RowsQ fs v H' := let ⟨a, xs, l, h1, h2, h3, h4⟩ := h; ⟨a, xs, l, h1, seq_same h2 e, h3.same e, h4⟩
theorem FldsQ.ex {fs : List (Str × List Str)} {v : V} {H H' : Hp} (h : FldsQ fs v H) (e : Ex H H') : FldsQ fs v H' := let ⟨a, xs, h1, h2, h3⟩ := h; ⟨a, xs, h1, e _ _ h2, h3.same e⟩
theorem ShowQ.ex {wy nm : Str} {v : V} {H H' : Hp} (h : ShowQ wy nm v H) (e : Ex H H') : ShowQ wy nm v H' := let ⟨a, h1, h2⟩ := h; ⟨a, h1, seq_same h2 e⟩
theorem ShowT.ex {wy nm : Str} {v : V} {H H' : Hp} (h : ShowT wy nm v H) (e : Ex H H') : ShowT wy nm v H' := let ⟨a, h1, h2⟩ := h; ⟨a, h1, e _ _ h2⟩
theorem RlQ.ex {CR : Addr} {fs : List (Str × List Str)} {wy : Str} {i : Nat} {v : V} {H H' : Hp} (h : RlQ CR fs wy i v H) (e : Ex H H') : RlQ CR fs wy i v H' := let ⟨a, h1, h2⟩ := h; ⟨a, h1, h2.same e⟩
section
variable {K : PySem.W.Frag} {mg : Str → Option Value} {CR : Addr} {σ : L2.St} {H H' : Hp} {ta tb tc td te : TE} {fs gs : List (Str × List Str)} {wy nm wz : Str} {i j : Nat} {Pr Pr' : V → Hp → Prop}
theorem EvP.imp (h : EvP te σ H Pr) (k : ∀ v H', Ex H H' → Pr v H' → Pr' v H') : EvP te σ H Pr' := fun H1 e Q q => h H1 e _ fun v H2 e2 p => q v H2 e2 (k v H2 (Ex.trans e e2) p)
theorem EvP.mono (e0 : Ex H H') (h : EvP te σ H Pr) : EvP te σ H' Pr := fun H1 e Q q => h H1 (Ex.trans e0 e) Q q
theorem evp_ev {v : V} (h : Ev te σ H v) (hp : ∀ H1, Ex H H1 → Pr v H1) : EvP te σ H Pr := fun H1 e Q q => h H1 e _ fun H2 e2 => q v H2 e2 (hp H2 (Ex.trans e e2))
theorem evp_var {n : Nat} {v : V} (h : σ[n]? = some (some v)) (hp : ∀ H1, Ex H H1 → Pr v H1) : EvP (tVar n) σ H Pr := evp_ev (ev_var h) hp
theorem evp_L {xs : List V} (h : EvL te σ H xs) (hp : ∀ a H1, Ex H H1 → H1 a = some (.lst xs) → Pr (.ref a) H1) : EvP te σ H Pr := fun H1 e Q q => h H1 e _ fun p H2 _ e2 h2 => q _ H2 e2 (hp p H2 (Ex.trans e e2) h2)
theorem evp_U {xs : List V} (h : EvU te σ H xs) (hp : ∀ a H1, Ex H H1 → H1 a = some (.tup xs) → Pr (.ref a) H1) : EvP te σ H Pr := fun H1 e Q q => h H1 e _ fun p H2 _ e2 h2 => q _ H2 e2 (hp p H2 (Ex.trans e e2) h2)
theorem evp_mk (ha : EvP ta σ H (RowsQ fs)) (hb : EvP tb σ H (ShowQ wy nm)) (hf : FsOk fs) (hw : wy ∈ ways) (hi : (fs.map fun z => z.1)[i]? = some nm) : EvP (tMake CR (spRlInit CR) [] E0 (tCons ta (tCons tb tNil))) σ H (RlQ CR fs wy i) := fun H1 e Q q => ha H1 e _ fun v H2 e2 hv => hb H2 (Ex.trans e e2) _ fun u H3 e3 hu => by
  obtain ⟨a, xs, l, rfl, h1, h2, h3⟩ := hv
  obtain ⟨b, rfl, g1⟩ := hu
  subst h3
  exact mkRl (R := fun x H' => Q (.ref x) H') (seq_same h1 e3) (h2.same e3) hf g1 hw hi fun x H' nx e4 hx => q _ H' (Ex.trans e2 (Ex.trans e3 e4)) ⟨x, rfl, hx⟩
theorem rl_nof (t : Addr) (wy : Str) (i : Nat) : (rlF t wy i).lookup ("fields" : Str) = none := rl_no t wy i (by decide +kernel) (by decide +kernel) (by decide +kernel)
theorem rl_nos (t : Addr) (wy : Str) (i : Nat) : (rlF t wy i).lookup ("show" : Str) = none := rl_no t wy i (by decide +kernel) (by decide +kernel) (by decide +kernel)
theorem evp_fields {a : Addr} (h : Ev te σ H (.ref a)) (ha : RlAt CR H a fs wy i) : EvP (tMeth CR "fields" (spRlFields CR) [] E0 te tNil) σ H (FldsQ fs) := fun H1 e Q q => h H1 e _ fun H2 e2 => by
  have h2 := ha.same (Ex.trans e e2)
  obtain ⟨dx, t, ts, h3, _⟩ := id h2.ob
  exact ⟨a, dx, _, rfl, h3, rl_nof _ _ _, a, fs, wy, i, rfl, h2, fun p xs H' np e3 hp hR => q _ H' (Ex.trans e2 e3) ⟨p, xs, rfl, hp, hR⟩⟩
theorem evp_show {a : Addr} (h : Ev te σ H (.ref a)) (ha : RlAt CR H a fs wy i) (hi : (fs.map fun z => z.1)[i]? = some nm) : EvP (tMeth CR "show" (spRlShow CR) [] E0 te tNil) σ H (ShowT wy nm) := fun H1 e Q q => h H1 e _ fun H2 e2 => by
  have h2 := ha.same (Ex.trans e e2)
  obtain ⟨dx, t, ts, h3, _⟩ := id h2.ob
  exact ⟨a, dx, _, rfl, h3, rl_nos _ _ _, a, fs, wy, i, rfl, h2, fun p nm' H' hn np e3 hp => q _ H' (Ex.trans e2 e3) ⟨p, rfl, by rw [hi] at hn; cases hn; exact hp⟩⟩
theorem same_strs {H : Hp} {d : Nat} {ws : List Str} : ∀ (n : Nat) u v, (ws.map V.str)[n]? = some u → (ws.map V.str)[n]? = some v → SameV H (d + 1) u v := fun n u v h1 h2 => by
  rw [h1] at h2
  cases h2
  obtain ⟨x, _, rfl⟩ := map_inv1 h1
  exact .str x
end
/-! ### a rule's text -/
def textR (fs : List (Str × List Str)) (wy nm : Str) : Str := Txt.join "" (fs.map (fun z => lineF z.1 z.2) ++ [lineS wy nm])
theorem joinE_len (ps : List Str) : (Txt.join "" ps).length ≤ (ps.map (·.length)).sum := by
  rw [len_tl, join_eq, tl_join]
  have e0 : tl ("" : Str) = [] := by decide +kernel
  rw [e0]
  have key : ∀ qs : List Str, (joinL [] (qs.map tl)).length ≤ (qs.map (·.length)).sum := by
    intro qs
    induction qs with
    | nil => simp [joinL]
    | cons a r ih =>
      by_cases hr : r = []
      · subst hr
        simp [joinL, len_tl]
      · rw [List.map_cons, joinL_cons (by simpa using hr), List.map_cons, List.sum_cons]
        simp only [List.length_append, List.nil_append]
        rw [len_tl a]
        omega
  exact key ps
theorem sum_leQ {l : List Nat} {m : Nat} (h : ∀ x ∈ l, x ≤ m) : l.sum ≤ l.length * m := by
  induction l with
  | nil => simp
  | cons a r ih =>
    have h1 := ih fun x hx => h x (by simp [hx])
    have h2 := h a (by simp)
    rw [List.sum_cons, List.length_cons, Nat.add_mul]
    omega
theorem text_sum {fs : List (Str × List Str)} {wy nm : Str} (hf : FsOk fs) (hw : wy ∈ ways) (hn : isW nm = true) : ((fs.map (fun z => lineF z.1 z.2) ++ [lineS wy nm]).map (·.length)).sum ≤ 1200 := by
  have h := sum_leQ (l := (fs.map (fun z => lineF z.1 z.2) ++ [lineS wy nm]).map (·.length)) (m := 300) fun x hx => by
    obtain ⟨y, hy, rfl⟩ := List.mem_map.mp hx
    rcases List.mem_append.mp hy with hy | hy
    · obtain ⟨z, hz, rfl⟩ := List.mem_map.mp hy
      exact Nat.le_trans (lineF_len (hf.ok z hz)) (by decide)
    · rw [List.mem_singleton.mp hy]
      have := lineS_len hw hn
      omega
  have h3 := hf.l3
  rw [List.length_map, List.length_append, List.length_map, List.length_singleton] at h
  omega
theorem nm_word {fs : List (Str × List Str)} {nm : Str} {i : Nat} (hf : FsOk fs) (hi : (fs.map fun z => z.1)[i]? = some nm) : isW nm = true := by
  obtain ⟨z, hz, rfl⟩ := List.mem_map.mp (List.mem_of_getElem? hi)
  exact (hf.ok z hz).wd
end Lm

namespace Lm
open PySem L2 Evl RZ TL ClX
/-! ### what a text tells -/
def fieldOf (l : Str) : Option (Str × List Str) :=
  if fldS (fieldS (wordsOf l)) = true ∧ wordsOf l = wordsF ((fieldS (wordsOf l)).headD "") (fieldS (wordsOf l)).tail then some ((fieldS (wordsOf l)).headD "", (fieldS (wordsOf l)).tail) else none
theorem fieldOf_some {l : Str} {z : Str × List Str} (h : fieldOf l = some z) : FldOk z.1 z.2 ∧ wordsOf l = wordsF z.1 z.2 := by
  unfold fieldOf at h
  split at h
  · rename_i hc
    cases h
    obtain ⟨nm, r, e, hf⟩ := fldS_ok hc.1
    refine ⟨?_, hc.2⟩
    rw [e]
    exact hf
  · cases h
theorem fieldOf_of {l nm : Str} {r : List Str} (hf : FldOk nm r) (hw : wordsOf l = wordsF nm r) : fieldOf l = some (nm, r) := by
  have e := fieldS_at (nm := nm) hf.len
  rw [← hw] at e
  unfold fieldOf
  rw [e, if_pos ⟨fldB_iff.mpr hf, hw⟩]
  rfl
theorem fieldOf_none {l : Str} (h : fieldOf l = none) : ∀ nm r, FldOk nm r → ¬ wordsOf l = wordsF nm r := fun nm r hf hw => by
  rw [fieldOf_of hf hw] at h
  cases h
def showOf (l : Str) : Option (Str × Str) := match wordsOf l with
  | [a, wy, nm] => if a = "show" ∧ wy ∈ ways ∧ isW nm = true then some (wy, nm) else none
  | _ => none
theorem showOf_some {l : Str} {z : Str × Str} (h : showOf l = some z) : z.1 ∈ ways ∧ isW z.2 = true ∧ wordsOf l = wordsS z.1 z.2 := by
  unfold showOf at h
  split at h
  · rename_i a wy nm hw
    split at h
    · rename_i hc
      cases h
      refine ⟨hc.2.1, hc.2.2, ?_⟩
      rw [hw, hc.1]
      rfl
    · cases h
  · cases h
theorem showOf_of {l wy nm : Str} (hw : wy ∈ ways) (hn : isW nm = true) (h : wordsOf l = wordsS wy nm) : showOf l = some (wy, nm) := by
  unfold showOf
  rw [h]
  show (if ("show" : Str) = "show" ∧ wy ∈ ways ∧ isW nm = true then some (wy, nm) else none) = _
  rw [if_pos ⟨rfl, hw, hn⟩]
theorem showOf_none {l : Str} (h : showOf l = none) : ∀ wy nm, wy ∈ ways → isW nm = true → ¬ wordsOf l = wordsS wy nm := fun wy nm hw hn e => by
  rw [showOf_of hw hn e] at h
  cases h
theorem wordsF_len {nm : Str} {r : List Str} (h : r.length = 6) : (wordsF nm r).length = 13 := by
  obtain ⟨a, b, c, d, e, f, rfl⟩ := six_of h
  rw [wordsF_at]
  rfl
theorem show_field {l : Str} {z : Str × List Str} (h : fieldOf l = some z) : showOf l = none := by
  obtain ⟨hf, hw⟩ := fieldOf_some h
  cases e : showOf l with
  | none => rfl
  | some y =>
    have h2 := (showOf_some e).2.2
    rw [hw] at h2
    have := congrArg List.length h2
    rw [wordsF_len hf.len] at this
    cases this
inductive OutK where
  | text (n : Nat)
  | dup (k : Nat)
  | noshow
  | made (fs : List (Str × List Str)) (wy nm : Str)
  deriving DecidableEq
abbrev nmsOf (fs : List (Str × List Str)) : List Str := fs.map fun z => z.1
/-- the first name that stands ahead -/
def dupGo : List Str → Nat → List Str → Option Nat
  | _, _, [] => none
  | seen, k, x :: r => if x ∈ seen then some k else dupGo (seen ++ [x]) (k + 1) r
def dupAt (ns : List Str) : Option Nat := dupGo [] 0 ns
theorem dupGo_some : ∀ {r seen : List Str} {k j : Nat}, seen.length = k → seen.Nodup → dupGo seen k r = some j → ∃ nm, (seen ++ r)[j]? = some nm ∧ nm ∈ (seen ++ r).take j ∧ ((seen ++ r).take j).Nodup
  | [], _, _, _, _, _, h => nomatch h
  | x :: r, seen, k, j, hk, hn, h => by
    unfold dupGo at h
    split at h
    · rename_i hx
      cases h
      subst hk
      refine ⟨x, by rw [List.getElem?_append_right (Nat.le_refl _), Nat.sub_self]; rfl, ?_, ?_⟩
      · rw [List.take_left' rfl]; exact hx
      · rw [List.take_left' rfl]; exact hn
    · rename_i hx
      have := dupGo_some (by rw [List.length_append, hk]; rfl) (List.nodup_append.mpr ⟨hn, by simp, fun a ha b hb e => hx (by rw [List.mem_singleton.mp hb] at e; rw [← e]; exact ha)⟩) h
      rw [List.append_assoc] at this
      exact this
theorem dupGo_none : ∀ {r seen : List Str} {k : Nat}, seen.Nodup → dupGo seen k r = none → (seen ++ r).Nodup
  | [], _, _, hn, _ => by rw [List.append_nil]; exact hn
  | x :: r, seen, k, hn, h => by
    unfold dupGo at h
    split at h
    · cases h
    · rename_i hx
      have := dupGo_none (List.nodup_append.mpr ⟨hn, by simp, fun a ha b hb e => hx (by rw [List.mem_singleton.mp hb] at e; rw [← e]; exact ha)⟩) h
      rw [List.append_assoc] at this
      exact this
theorem dupAt_some {ns : List Str} {k : Nat} (h : dupAt ns = some k) : ∃ nm, ns[k]? = some nm ∧ nm ∈ ns.take k ∧ (ns.take k).Nodup := dupGo_some (seen := []) rfl List.nodup_nil h
theorem dupAt_none {ns : List Str} (h : dupAt ns = none) : ns.Nodup := dupGo_none (seen := []) List.nodup_nil h
theorem dupGo_at {ns : List Str} {i : Nat} {x : Str} (h : ns[i]? = some x) : dupGo (ns.take i) i (ns.drop i) = if x ∈ ns.take i then some i else dupGo (ns.take (i + 1)) (i + 1) (ns.drop (i + 1)) := by
  have e : ns.drop i = x :: ns.drop (i + 1) := by
    have hi := (List.getElem?_eq_some_iff.mp h)
    rw [← hi.2]
    exact List.drop_eq_getElem_cons hi.1
  rw [e]
  show (if x ∈ ns.take i then some i else dupGo (ns.take i ++ [x]) (i + 1) (ns.drop (i + 1))) = _
  rw [List.take_succ, h]
  rfl
def ruleDue (fs : List (Str × List Str)) (wy nm : Str) : OutK := match dupAt (nmsOf fs) with
  | some k => .dup k
  | none => if nm ∈ nmsOf fs then .made fs wy nm else .noshow
def outK : Nat → List (Str × List Str) → List Str → OutK
  | i, _, [] => .text (i + 1)
  | i, _, [_] => .text (i + 1)
  | i, fs, l :: l2 :: r => match fieldOf l with
    | some z => if fs.length = 3 then .text (i + 1) else outK (i + 1) (fs ++ [z]) (l2 :: r)
    | none => match showOf l with
      | some y => if fs = [] then .text (i + 1) else if l2 :: r = [("" : Str)] then ruleDue fs y.1 y.2 else .text (i + 2)
      | none => .text (i + 1)
def outT (x : Str) : OutK := outK 0 [] (linesOf x)
theorem lines_head {x : Str} {i : Nat} {l : Str} (h : (headL x)[i]? = some l) : ∃ l2 r, (linesOf x).drop i = l :: l2 :: r ∧ (linesOf x).drop (i + 1) = l2 :: r := by
  have hi := (List.getElem?_eq_some_iff.mp h)
  have e : (linesOf x).drop i = l :: (linesOf x).drop (i + 1) := by
    have h2 : (linesOf x)[i]? = some l := by rw [lines_eq, List.getElem?_append_left hi.1]; exact h
    have hj := (List.getElem?_eq_some_iff.mp h2)
    rw [← hj.2]
    exact List.drop_eq_getElem_cons hj.1
  cases hd : (linesOf x).drop (i + 1) with
  | nil =>
    have := congrArg List.length hd
    rw [List.length_drop, lines_eq, List.length_append] at this
    have h1 := hi.1
    simp at this
    omega
  | cons a r => exact ⟨a, r, by rw [e, hd], rfl⟩
theorem lines_last (x : Str) : (linesOf x).drop (headL x).length = [lastL x] := by
  rw [lines_eq]
  exact List.drop_left' rfl
theorem full_cases {x : Str} {i : Nat} {z : Bool × Str} (h : (fullL x)[i]? = some z) : (z.1 = true ∧ (headL x)[i]? = some z.2) ∨ (z.1 = false ∧ i = (headL x).length ∧ z.2 = lastL x ∧ lastL x ≠ "") := by
  unfold fullL at h
  rcases Nat.lt_or_ge i (headL x).length with q | q
  · left
    rw [List.getElem?_append_left (by rw [List.length_map]; exact q), List.getElem?_map, List.getElem?_eq_getElem q] at h
    cases h
    exact ⟨rfl, List.getElem?_eq_getElem q⟩
  · right
    rw [List.getElem?_append_right (by rw [List.length_map]; exact q), List.length_map] at h
    split at h
    · simp at h
    · rename_i hne
      have hi : i - (headL x).length = 0 := by have := (List.getElem?_eq_some_iff.mp h).1; simp at this; omega
      rw [hi] at h
      cases h
      exact ⟨rfl, by omega, rfl, hne⟩
theorem full_length (x : Str) : (fullL x).length = (headL x).length + if lastL x = "" then 0 else 1 := by
  unfold fullL
  rw [List.length_append, List.length_map]
  split <;> rfl
/-- what is due, as a wish -/
def OutW (CR CB CU : Addr) (H : Hp) (Q : VK) (E : XK) : OutK → Prop
  | .text n => ∀ H' d, Ex H H' → H' d = none → E (.ref CB) (some d) (upd H' d (.xd [("line", .int (n : Nat))]))
  | .dup k => ∀ H' d, Ex H H' → H' d = none → E (.ref CU) (some d) (upd H' d (.xd [("reason", .str "name"), ("index", .int (k : Nat))]))
  | .noshow => ∀ H' d, Ex H H' → H' d = none → E (.ref CU) (some d) (upd H' d (.xd [("reason", .str "show"), ("index", .non)]))
  | .made fs wy nm => ∀ i v H', (nmsOf fs)[i]? = some nm → FsOk fs → wy ∈ ways → Ex H H' → RlQ CR fs wy i v H' → Q v H'
end Lm

namespace Lm
open PySem L2 Evl RZ TL ClX
/-- what is kept for an own error with one field -/
structure ErrI (P : Program) (w : World) (K : PySem.W.Frag) (mg : Str → Option Value) (base : Heap) (C fI : Addr) (fdI : FuncData) (fn : Str) : Prop where
  ok : FnOk P w K mg base CX0 1 fI fdI ["self", fn] (spErrI C fn)
  bd : Binds K fdI ["self", fn] []
theorem pmk_errF {X : Cx} {x fn : Str} {C fI : Addr} {fdI : FuncData} {e : Expr} {te : TE} {p pos : Pos} (T : ErrF X.K X.mg x C fI fn) (I : ErrI X.prog X.w X.K X.mg X.base C fI fdI fn) (hr : Room 2 X.A) (ha : PA X [e] (tCons te tNil)) (hg : Gl X x := by rfl) (hdb : (x == ("__debug__" : Str)) = false := by decide)
    (hst : starEach [e] X.env = (false, eval e X.env) :: starEach [] X.env := by rfl) (hpl : (backTo pos (starEach [] X.env)).any (·.1) = false := by rfl) : PMk X (.Call (.Name x p) [e] [] pos) (tMkO C (spErrI C fn) [] (tCons te tNil)) :=
  pmk_oex T.T T.ini T.ty I.ok hr I.bd .nil pass0 hg T.g ha hdb hst hpl
section
variable {P : Program} {w : World} {K : PySem.W.Frag} {mg : Str → Option Value} {base : Heap} {f : Addr} {fd : FuncData}
def spRlAny (CR CU : Addr) : Sp := fun vs H Q E => (spRlInit CR vs H Q E ∨ spRlDup CU vs H Q E) ∨ spRlNoShow CU vs H Q E
def spTextAny (CR CB CU : Addr) : Sp := fun vs H Q E => ∃ x : Str, vs = [.ref CR, .str x] ∧ TxOk x ∧ OutW CR CB CU H Q E (outT x)
theorem RowsT.snoc {H : Hp} {xs : List V} {fs : List (Str × List Str)} {p : Addr} {z : Str × List Str} (h : RowsT H xs fs) (hp : H p = some (.tup ((z.1 :: z.2).map V.str))) : RowsT H (xs ++ [.ref p]) (fs ++ [z]) := by
  obtain ⟨ts, h1, h2, h3⟩ := h
  refine ⟨ts ++ [p], by rw [h1, List.map_append]; rfl, by simp [h2], fun j y u a b => ?_⟩
  rcases Nat.lt_or_ge j fs.length with q | q
  · rw [List.getElem?_append_left q] at a
    rw [List.getElem?_append_left (by omega)] at b
    exact h3 j y u a b
  · rw [List.getElem?_append_right q] at a
    rw [List.getElem?_append_right (by omega), h2] at b
    have hj : j - fs.length = 0 := by have := (List.getElem?_eq_some_iff.mp a).1; simp at this; omega
    rw [hj] at a b
    cases a
    cases b
    exact hp
theorem RowsT.kp {H H' : Hp} {q : Addr} {xs ys : List V} {fs : List (Str × List Str)} (h : RowsT H xs fs) (e : Kp q H H') (hq : H q = some (.lst ys)) : RowsT H' xs fs := by
  obtain ⟨ts, h1, h2, h3⟩ := h
  exact ⟨ts, h1, h2, fun j z u a b => e _ _ (ne_of (h3 j z u a b) hq (by intro z; cases z)) (h3 j z u a b)⟩
theorem RowsT.len {H : Hp} {xs : List V} {fs : List (Str × List Str)} (h : RowsT H xs fs) : xs.length = fs.length := by
  obtain ⟨ts, rfl, h2, _⟩ := h
  rw [List.length_map, h2]
/-- the state of the reading -/
def RdSt (x : Str) (i : Nat) (fs : List (Str × List Str)) (sv : V) (H : Hp) : Prop :=
  (sv = .non ∧ outT x = outK i fs ((linesOf x).drop i)) ∨ ∃ (wy nm : Str) (p : Addr), sv = .ref p ∧ H p = some (.tup [.str wy, .str nm]) ∧ wy ∈ ways ∧ isW nm = true ∧ 0 < fs.length ∧ outT x = if (linesOf x).drop i = [("" : Str)] then ruleDue fs wy nm else .text (i + 1)
theorem RdSt.ex {x : Str} {i : Nat} {fs : List (Str × List Str)} {sv : V} {H H' : Hp} (h : RdSt x i fs sv H) (e : Ex H H') : RdSt x i fs sv H' := h.elim .inl fun ⟨wy, nm, p, h1, h2, h3⟩ => .inr ⟨wy, nm, p, h1, e _ _ h2, h3⟩
abbrev s_Rule_of_text : Stmt := inClass (top 15) 4
theorem sc_Rule_of_text : FnScope ["cls", "text", "fields", "show", "lines", "number", "line", "field"] ["cls", "text"] (defScope s_Rule_of_text) := ⟨rfl, rfl, rfl, by decide +kernel, rfl, by decide +kernel, by decide +kernel⟩
theorem ok_text_any {CR CB CU C0 W0 fL fF fS fI fX : Addr} {dL dF dS dI dX : FuncData} {tM : Tok} (F : L2.Fun K "of_text" "Rule.of_text" s_Rule_of_text f fd) (T : Blt mg) (T' : RlCst mg C0 W0 tM) (TB : ErrF K mg "BadText" CB fX "line") (IB : ErrI P w K mg base CB fX dX "line")
    (D_lines_of : DefOk P w K mg base 1 "lines_of" fL dL ["text"] spLines) (D_field_of_line : DefOk P w K mg base 3 "field_of_line" fF dF ["line"] spFieldAny) (D_show_of_line : DefOk P w K mg base 3 "show_of_line" fS dS ["line"] spShowAny)
    (K_Rule : ClsOkX P w K mg base 4 "Rule" CR fI dI ["self", "fields", "show"] (spRlAny CR CU)) : FnOk P w K mg base (L2.CX P w) 6 f fd ["cls", "text"] (spTextAny CR CB CU) := by
  refine F.okX sc_Rule_of_text (fun vs H Q E h => ?_) (fun cdv A outer s H vs Q E hr h => ?_)
  · obtain ⟨x, rfl, _⟩ := h
    rfl
  · obtain ⟨x, rfl, htx, hout⟩ := h
    refine ⟨_, (pss_cons (ps_par (i := 2) (j := 3) (by rfl) sc_Rule_of_text.nd rfl rfl (by decide) rfl rfl (pa_cons (pe_lst pa_nil) (pa_cons pe_non pa_nil)) (by rfl))
        (pss_cons (ps_set (i := 4) sc_Rule_of_text.nd rfl (by first | exact Or.inl rfl | exact Or.inr rfl) (pe_d D_lines_of (hr.mono (by decide)) (pa_cons (pv 1) pa_nil)))
        (pss_cons (ps_for (passes_of rfl) rfl (pi_enumS rfl T.b_enumerate (pa_cons (pv 4) pa_nil) (pk_cons pe_int pk_nil)) (pg_tup rfl (pgs_cons (pg_name (i := 5) sc_Rule_of_text.nd rfl (by first | exact Or.inl rfl | exact Or.inr rfl)) (pgs_cons (pg_name (i := 6) sc_Rule_of_text.nd rfl (by first | exact Or.inl rfl | exact Or.inr rfl)) pgs_nil))) (pss_cons (ps_set (i := 7) sc_Rule_of_text.nd rfl (by first | exact Or.inl rfl | exact Or.inr rfl) (pe_d D_field_of_line (hr.mono (by decide)) (pa_cons (pv 6) pa_nil)))
        (pss_one (ps_if (PW.pt (pw_and (pt_cmpR op_isN1 (pv 3) pe_non (nomark _)) (pw_and (pt_cmpR op_notN1 (pv 7) pe_non (nomark _)) (pw_and1 (pt_cmpR op_lt (pe_callB call_len_seq (by rfl) T.b_len PySem.boot_len (pa_cons (pv 2) pa_nil)) (pe_glob (v := c_MOST_FIELDS) rfl T'.g_MOST_FIELDS ⟨_, rfl⟩) (nomark _)))))) (pss_one (ps_expr (pe_bm PySem.F.plainAttrs_list PySem.F.slot_list_append PySem.F.type_list_append mt_append (pv 2) (pa_cons (pv 7) pa_nil)))) (pss_one (ps_if (PW.pt (pw_and (pt_cmpR op_isN1 (pv 3) pe_non (nomark _)) (pw_and (pt_cmpR op_gt (pe_callB call_len_seq (by rfl) T.b_len PySem.boot_len (pa_cons (pv 2) pa_nil)) pe_int (nomark _)) (pw_and1 (pt_cmpR op_notN1 (pe_d D_show_of_line (hr.mono (by decide)) (pa_cons (pv 6) pa_nil)) pe_non (nomark _)))))) (pss_one (ps_set (i := 3) sc_Rule_of_text.nd rfl (by first | exact Or.inl rfl | exact Or.inr rfl) (pe_d D_show_of_line (hr.mono (by decide)) (pa_cons (pv 6) pa_nil)))) (pss_one (ps_raise rfl (takes_of rfl rfl rfl rfl) (pmk_errF TB IB (hr.mono (by decide)) (pa_cons (pv 5) pa_nil))))))))))
        (pss_cons (ps_if (pt_cmpR op_isN1 (pv 3) pe_non (nomark _)) (pss_one (ps_raise rfl (takes_of rfl rfl rfl rfl) (pmk_errF TB IB (hr.mono (by decide)) (pa_cons (pe_op op_add (pe_callB call_len_seq (by rfl) T.b_len PySem.boot_len (pa_cons (pv 4) pa_nil)) pe_int) pa_nil)))) pss_nil)
        (pss_one (ps_ret (pe_mkVX (i := 0) K_Rule (hr.mono (by decide)) rfl (by first | exact Or.inl rfl | exact Or.inr rfl) (passes_call (takes_of rfl rfl rfl rfl) (fun _ _ _ _ h => h)) (pa_cons (pv 2) (pa_cons (pv 3) pa_nil))))))))), ?_⟩
    have hfu := htx.full
    have hc := htx.count
    refine ⟨by show 0 ≤ sizeLine; decide, fun fl nfl => ⟨_, _, rfl, ?_⟩⟩
    have e1 := Ex.new nfl (o := .lst [])
    have hfl1 : (upd H fl (.lst [])) fl = some (.lst []) := upd_same
    generalize upd H fl (.lst []) = H1 at e1 hfl1
    refine ⟨_, rfl, x, rfl, htx, fun lp H2 nlp e2 hlp => ?_⟩
    have hfl2 := e2 _ _ hfl1
    have nlf : lp ≠ fl := fun z => by rw [z, hfl1] at nlp; cases nlp
    have e02 := Ex.trans e1 e2
    have lm : ((fullL x).map fun z => V.str (lnOf z.1 z.2)).length = (fullL x).length := List.length_map ..
    have hfc : (fullL x).length ≤ 10001 := Nat.le_trans (full_len x) hc
    refine ⟨_, rfl, lp, _, 1, rfl, rfl, by decide, by decide, SqL.of hlp, for_it walk_enumS (fun n σ' H' => ∃ (sv : V) (u5 u6 u7 : Option V) (xs : List V) (fs : List (Str × List Str)), σ' = [some (.ref CR), some (.str x), some (.ref fl), some sv, some (.ref lp), u5, u6, u7] ∧ Ex H H' ∧ H' lp = some (.lst ((fullL x).map fun z => V.str (lnOf z.1 z.2))) ∧ H' fl = some (.lst xs) ∧ RowsT H' xs fs ∧ fs.length ≤ 3 ∧ (∀ z ∈ fs, FldOk z.1 z.2) ∧ n ≤ (headL x).length ∧ RdSt x n fs sv H')
      ⟨.non, _, _, _, [], [], rfl, e02, hlp, hfl2, ⟨[], rfl, rfl, fun j z u a => by simp at a⟩, by decide, (fun z hz => nomatch hz), Nat.zero_le _, .inl ⟨rfl, rfl⟩⟩ (fun n σ' H' _ ⟨_, _, _, _, _, _, _, _, h, _⟩ => SqL.of h) ?_ ?_⟩
    · rintro n v σ' H3 H4 hnl ⟨sv, u5, u6, u7, xs, fs, rfl, e3, hlp3, hxs, hR, l3, hok, hnh, hrd⟩ ⟨t, x1, x2, rfl, nt, rfl, hx1, hx2⟩
      cases (Option.some.inj hx1)
      have hx2 : ((fullL x).map fun z => V.str (lnOf z.1 z.2))[n]? = some x2 := hx2
      obtain ⟨z, hz, rfl⟩ := map_inv1 hx2
      have hzf := hfu z (List.mem_of_getElem? hz)
      refine ⟨t, _, rfl, SqT.of upd_same, rfl, _, _, rfl, _, _, rfl, rfl, ?_⟩
      dsimp only [List.set]
      have et := Ex.new nt (o := .tup [.int (1 + (n : Nat)), .str (lnOf z.1 z.2)])
      have hlp4 := et _ _ hlp3
      have hxs4 := et _ _ hxs
      have hR4 := hR.same et
      have hrd4 := hrd.ex et
      have e04 := Ex.trans e3 et
      generalize upd H3 t (.tup [.int (1 + (n : Nat)), .str (lnOf z.1 z.2)]) = H4 at hlp4 hxs4 hR4 e04 hrd4
      have lxs := hR4.len
      have hraise : outT x = .text (n + 1) → ∀ {σ : L2.St} {H5 : Hp}, σ[5]? = some (some (.int (1 + (n : Nat)))) → Ex H4 H5 → tMkO CB (spErrI CB "line") [] (tCons (tVar 5) tNil) σ H5 E := fun ho σ H5 h5 e5 => go_mkO (ev_var h5) fun H7 dd e7 nd => by
        have h1 := hout
        rw [ho] at h1
        have h2 := h1 H7 dd (Ex.trans e04 (Ex.trans e5 e7)) nd
        have e1i : (1 : Int) + (n : Nat) = ((n + 1 : Nat) : Int) := by omega
        rw [e1i]
        exact h2
      have elen : ∀ {σ : L2.St} {H' : Hp}, σ[2]? = some (some (.ref fl)) → Ex H4 H' → Ev (tCB (rLenS K) (tCons (tVar 2) tNil)) σ H' (.int (fs.length : Nat)) := fun h2 e => by rw [← lxs]; exact ev_lenL (K := K) (ev_var h2) (e _ _ hxs4)
      have ets : ∀ {σ : L2.St} {H5 : Hp}, σ[6]? = some (some (.str (lnOf z.1 z.2))) → EvT (tTest (tOp rNotN (tCall spShowAny [] E0 (tCons (tVar 6) tNil)) (tC .non))) σ H5 (z.1 && (showOf z.2).isSome) := fun h6 H7 e7 Q q => ⟨_, h6, z.1, z.2, rfl, hzf.2, hzf.1, fun wy nm h1 hw hn hq p H8 np e8 hp => ⟨rfl, true, rfl, by
          have h2 := q H8 e8
          rw [h1, showOf_of hw hn hq] at h2
          exact h2⟩, fun hno H8 e8 => ⟨rfl, false, rfl, by
          have h2 := q H8 e8
          have h3 : (z.1 && (showOf z.2).isSome) = false := by
            cases hz1 : z.1 with
            | false => rfl
            | true =>
              cases hs : showOf z.2 with
              | none => rfl
              | some y =>
                have := showOf_some hs
                exact absurd this.2.2 (hno _ _ hz1 this.1 this.2.1)
          rw [h3] at h2
          exact h2⟩⟩
      have hfin : ∀ (wy nm : Str), outT x = (if (linesOf x).drop n = [("" : Str)] then ruleDue fs wy nm else .text (n + 1)) → outT x = .text (n + 1) := fun wy nm h => by
        rw [h, if_neg]
        intro hd
        rcases full_cases hz with ⟨_, h2⟩ | ⟨_, h2, h3, h4⟩
        · obtain ⟨l2, r, e, _⟩ := lines_head h2
          rw [e] at hd
          exact absurd (congrArg List.length hd) (by simp)
        · rw [h2, lines_last] at hd
          exact h4 (List.cons.inj hd).1
      refine ⟨_, rfl, z.1, z.2, rfl, hzf.2, hzf.1, fun nm r h1 hf hw p H5 np e5 hp => ?_, fun hno H5 e5 => ?_⟩
      · dsimp only [gName, List.set]
        have hfo := fieldOf_of hf hw
        have hhd : (headL x)[n]? = some z.2 := by
          rcases full_cases hz with ⟨_, h⟩ | ⟨h, _⟩
          · exact h
          · rw [h1] at h; cases h
        obtain ⟨l2, r', hd1, hd2⟩ := lines_head hhd
        have hno : showOf z.2 = none := show_field hfo
        rcases hrd4 with ⟨rfl, hA⟩ | ⟨wy, nm', ps, rfl, hps, hwy, hnm', hpos, hB⟩
        · rw [hd1] at hA
          rcases Nat.lt_or_ge fs.length 3 with hlt | hge
          · refine s_if (b := true) (et_is (et_and (et_is (et_test (ev_isN (x := .non) (ev_var rfl))) (decide_eq_true rfl)) fun _ => et_and (et_is (et_test (ev_notN (x := .ref p) (ev_var rfl))) (b := true) (by simp)) fun _ => et_test (ev_op (elen rfl e5) ev_c rv_I0)) (by simp; omega)) (fun _ H6 e6 => ?_) (fun z => nomatch z)
            have e46 := Ex.trans e5 e6
            have hxs6 := e46 _ _ hxs4
            refine s_app hxs6 (ev_var rfl) (ev_var rfl) (by omega) fun H7 e7 => ?_
            have e47 := Ex.trans e46 e7
            refine ⟨.non, _, _, _, xs ++ [.ref p], fs ++ [(nm, r)], rfl, Ex.mut (Ex.trans e04 e47) nfl, ?_, upd_same, ?_, by rw [List.length_append]; exact hlt, ?_, ?_, .inl ⟨rfl, ?_⟩⟩
            · rw [upd_ne nlf]
              exact e47 _ _ hlp4
            · exact RowsT.kp (RowsT.snoc (z := (nm, r)) (hR4.same e47) (Ex.trans e6 e7 _ _ hp)) (Kp.upd _ _ _) (e7 _ _ hxs6)
            · intro y hy
              rcases List.mem_append.mp hy with hy | hy
              · exact hok y hy
              · rw [List.mem_singleton.mp hy]; exact hf
            · exact (List.getElem?_eq_some_iff.mp hhd).1
            · rw [hA, hd2]
              show (match fieldOf z.2 with | some z => _ | none => _) = _
              rw [hfo]
              show (if fs.length = 3 then _ else _) = _
              rw [if_neg (by omega)]
          · have hA2 : outT x = .text (n + 1) := by
              rw [hA]
              show (match fieldOf z.2 with | some z => _ | none => _) = _
              rw [hfo]
              show (if fs.length = 3 then _ else _) = _
              rw [if_pos (by omega)]
            refine s_if (b := false) (et_is (et_and (et_is (et_test (ev_isN (x := .non) (ev_var rfl))) (decide_eq_true rfl)) fun _ => et_and (et_is (et_test (ev_notN (x := .ref p) (ev_var rfl))) (b := true) (by simp)) fun _ => et_test (ev_op (elen rfl e5) ev_c rv_I0)) (by simp; omega)) (fun z => nomatch z) (fun _ H6 e6 => ?_)
            have e46 := Ex.trans e5 e6
            refine s_if (b := false) (et_is (et_and (et_is (et_test (ev_isN (x := .non) (ev_var rfl))) (decide_eq_true rfl)) fun _ => et_and (et_test (ev_op (elen rfl e46) ev_c rv_I0)) fun _ => ets rfl) (by rw [hno]; simp)) (fun z => nomatch z) (fun _ H7 e7 => ?_)
            exact hraise hA2 rfl (Ex.trans e46 e7)
        · have hA2 := hfin wy nm' hB
          refine s_if (b := false) (et_is (et_and (b := true) (et_is (et_test (ev_isN (x := .ref ps) (ev_var rfl))) (decide_eq_false fun z => nomatch z)) fun h => nomatch h) rfl) (fun z => nomatch z) (fun _ H6 e6 => ?_)
          refine s_if (b := false) (et_is (et_and (b := true) (et_is (et_test (ev_isN (x := .ref ps) (ev_var rfl))) (decide_eq_false fun z => nomatch z)) fun h => nomatch h) rfl) (fun z => nomatch z) (fun _ H7 e7 => ?_)
          exact hraise hA2 rfl (Ex.trans e5 (Ex.trans e6 e7))
      · dsimp only [gName, List.set]
        rcases hrd4 with ⟨rfl, hA⟩ | ⟨wy, nm', ps, rfl, hps, hwy, hnm', hpos, hB⟩
        · refine s_if (b := false) (et_is (et_and (et_is (et_test (ev_isN (x := .non) (ev_var rfl))) (decide_eq_true rfl)) fun _ => et_and (b := true) (et_is (et_test (ev_notN (x := .non) (ev_var rfl))) (b := false) (by simp)) fun h => nomatch h) (by simp)) (fun z => nomatch z) (fun _ H6 e6 => ?_)
          have e46 := Ex.trans e5 e6
          refine s_if (b := decide (0 < fs.length) && (z.1 && (showOf z.2).isSome)) (et_is (et_and (et_is (et_test (ev_isN (x := .non) (ev_var rfl))) (decide_eq_true rfl)) fun _ => et_and (et_test (ev_op (elen rfl e46) ev_c rv_I0)) fun _ => ets rfl) (by simp)) (fun hb H7 e7 => ?_) (fun hb H7 e7 => ?_)
          · rw [Bool.and_eq_true, Bool.and_eq_true] at hb
            have hpos := of_decide_eq_true hb.1
            have hhd : (headL x)[n]? = some z.2 := by
              rcases full_cases hz with ⟨_, h⟩ | ⟨h, _⟩
              · exact h
              · rw [h] at hb; exact absurd hb.2.1 (by decide)
            obtain ⟨l2, r', hd1, hd2⟩ := lines_head hhd
            obtain ⟨y, hy⟩ := Option.isSome_iff_exists.mp hb.2.2
            have hsy := showOf_some hy
            have hfo : fieldOf z.2 = none := by
              cases h : fieldOf z.2 with
              | none => rfl
              | some q => rw [show_field h] at hy; cases hy
            refine ⟨_, rfl, z.1, z.2, rfl, hzf.2, hzf.1, fun wy nm _ hw hn hq p H8 np e8 hp => ?_, fun hno H8 e8 => absurd hsy.2.2 (hno _ _ hb.2.1 hsy.1 hsy.2.1)⟩
            have hy2 := showOf_of hw hn hq
            rw [hy] at hy2
            cases hy2
            have e48 := Ex.trans e46 (Ex.trans e7 e8)
            refine ⟨.ref p, _, _, _, xs, fs, rfl, Ex.trans e04 e48, e48 _ _ hlp4, e48 _ _ hxs4, hR4.same e48, l3, hok, (List.getElem?_eq_some_iff.mp hhd).1, .inr ⟨wy, nm, p, rfl, hp, hw, hn, hpos, ?_⟩⟩
            rw [hA, hd1, hd2]
            show (match fieldOf z.2 with | some z => _ | none => _) = _
            rw [hfo]
            show (match showOf z.2 with | some y => _ | none => _) = _
            rw [hy]
            show (if fs = [] then _ else _) = _
            rw [if_neg (by intro h; rw [h] at hpos; exact absurd hpos (by decide))]
          · refine hraise ?_ rfl (Ex.trans e46 e7)
            rw [hA]
            rcases full_cases hz with ⟨h1, h2⟩ | ⟨h1, h2, h3, h4⟩
            · obtain ⟨l2, r', hd1, hd2⟩ := lines_head h2
              have hfo : fieldOf z.2 = none := by
                cases h : fieldOf z.2 with
                | none => rfl
                | some q =>
                  have := fieldOf_some h
                  exact absurd this.2 (hno _ _ h1 this.1)
              rw [hd1]
              show (match fieldOf z.2 with | some z => _ | none => _) = _
              rw [hfo]
              show (match showOf z.2 with | some y => _ | none => _) = _
              rw [h1, Bool.true_and] at hb
              cases hs : showOf z.2 with
              | none => rfl
              | some y =>
                show (if fs = [] then _ else _) = _
                rw [hs] at hb
                have : fs = [] := by
                  cases fs with
                  | nil => rfl
                  | cons a b => exact absurd hb (by simp)
                rw [if_pos this]
            · rw [h2, lines_last]
              rfl
        · have hA2 := hfin wy nm' hB
          refine s_if (b := false) (et_is (et_and (b := true) (et_is (et_test (ev_isN (x := .ref ps) (ev_var rfl))) (decide_eq_false fun z => nomatch z)) fun h => nomatch h) rfl) (fun z => nomatch z) (fun _ H6 e6 => ?_)
          refine s_if (b := false) (et_is (et_and (b := true) (et_is (et_test (ev_isN (x := .ref ps) (ev_var rfl))) (decide_eq_false fun z => nomatch z)) fun h => nomatch h) rfl) (fun z => nomatch z) (fun _ H7 e7 => ?_)
          exact hraise hA2 rfl (Ex.trans e5 (Ex.trans e6 e7))
    · rintro σ' H3 ⟨sv, u5, u6, u7, xs, fs, rfl, e3, hlp3, hxs, hR, l3, hok, hnh, hrd⟩
      rw [lm] at hnh hrd
      have hl0 : lastL x = "" := Decidable.byContradiction fun h => by
        rw [full_length, if_neg h] at hnh
        omega
      have hlen : (fullL x).length = (headL x).length := by rw [full_length, if_pos hl0]; rfl
      have hdr : (linesOf x).drop (fullL x).length = [("" : Str)] := by rw [hlen, lines_last, hl0]
      dsimp only
      rcases hrd with ⟨rfl, hA⟩ | ⟨wy, nm, b, rfl, hb, hwy, hnm, hpos, hB⟩
      · rw [hdr] at hA
        refine q_when (b := true) (et_is (et_test (ev_isN (x := .non) (ev_var rfl))) (decide_eq_true rfl)) (fun _ H5 e5 => ?_) (fun z => nomatch z)
        refine go_mkO (ev_op (ev_lenL (K := K) (ev_var rfl) (e5 _ _ hlp3)) ev_c rv_I0) fun H7 dd e7 nd => ?_
        have h1 := hout
        rw [hA] at h1
        have h2 := h1 H7 dd (Ex.trans e3 (Ex.trans e5 e7)) nd
        rw [lm]
        exact h2
      · rw [if_pos hdr] at hB
        rw [hB] at hout
        refine q_when (b := false) (et_is (et_test (ev_isN (x := .ref b) (ev_var rfl))) (decide_eq_false fun z => nomatch z)) (fun z => nomatch z) fun _ H5 e5 => ?_
        have hxs5 := e5 _ _ hxs
        have hR5 := hR.same e5
        obtain ⟨l, hZ, hfs⟩ := rowsT_z hR5
        have e35 := Ex.trans e3 e5
        refine ⟨rfl, _, rfl, _, rfl, fun y dx ny ndx ndy => ?_⟩
        have s0 : Ex H5 (upd (upd H5 dx (.own y)) y (.ins CR dx [])) := fun b o e => by
          rw [upd_ne (ne_of_none e ny), upd_ne (ne_of_none e ndx)]
          exact e
        unfold ruleDue at hout
        cases hdu : dupAt (nmsOf fs) with
        | some k =>
          rw [hdu] at hout
          obtain ⟨dn, hd1, hd2, hd3⟩ := dupAt_some hdu
          refine .inl (.inr ⟨y, fl, b, xs, fs, k, dn, rfl, .inl (s0 _ _ hxs5), ?_, hpos, l3, hok, hd1, ?_, ?_, fun H' dd e nd => hout H' dd (Ex.trans e35 (Ex.trans s0 e)) nd⟩)
          · rw [← hfs]; exact (hZ.same s0).f
          · rw [← List.map_take] at hd2; exact hd2
          · rw [← List.map_take] at hd3; exact hd3
        | none =>
          rw [hdu] at hout
          have hnd := dupAt_none hdu
          have hF : FsOk fs := ⟨hpos, l3, hok, hnd⟩
          by_cases hmem : nm ∈ nmsOf fs
          · have hout : OutW CR CB CU H Q E (if nm ∈ nmsOf fs then .made fs wy nm else .noshow) := hout
            rw [if_pos hmem] at hout
            obtain ⟨i, hi⟩ := List.mem_iff_getElem?.mp hmem
            refine .inl (.inl ?_)
            have hF2 : FsOk (fsOf l) := by rw [hfs]; exact hF
            have hi2 : ((fsOf l).map fun z => z.1)[i]? = some nm := by rw [hfs]; exact hi
            refine mkRl (R := fun y H' => Q (.ref y) H') (.inl hxs5) hZ hF2 (.inr (e5 _ _ hb)) hwy hi2 (fun v H6 nv e6 hv => ?_) y dx ny ndx ndy
            rw [hfs] at hv
            exact hout i (.ref v) H6 hi hF hwy (Ex.trans e35 e6) ⟨v, rfl, hv⟩
          · have hout : OutW CR CB CU H Q E (if nm ∈ nmsOf fs then .made fs wy nm else .noshow) := hout
            rw [if_neg hmem] at hout
            refine .inr ⟨y, fl, b, xs, l, wy, nm, rfl, .inl (s0 _ _ hxs5), hZ.same s0, by rw [hfs]; exact hF, .inr (s0 _ _ (e5 _ _ hb)), hwy, hnm, by rw [hfs]; exact hmem, fun H' dd e nd => hout H' dd (Ex.trans e35 (Ex.trans s0 e)) nd⟩
end
end Lm

namespace Lm
open PySem L2 Evl RZ TL
/-! ### things told, old or new -/
def EvR (te : TE) (σ : L2.St) (H : Hp) (d : Nat) (s : Sh) : Prop := ∀ H1, Ex H H1 → ∀ Q : VK, (∀ v H2, Ex H1 H2 → Rep H2 d v s → Q v H2) → te σ H1 Q
def RepsA (H : Hp) (d : Nat) (vs : List V) (ss : List Sh) : Prop := RepA H (fun _ => True) d vs ss
def EvRA (ta : TA) (σ : L2.St) (H : Hp) (d : Nat) (ss : List Sh) : Prop := ∀ H1, Ex H H1 → ∀ Q : List V → Hp → Prop, (∀ vs H2, Ex H1 H2 → RepsA H2 d vs ss → Q vs H2) → ta σ H1 Q
theorem EvS.r {te : TE} {σ : L2.St} {H : Hp} {d : Nat} {s : Sh} (h : EvS te σ H d s) : EvR te σ H d s := fun H1 e Q q => h H1 e _ fun v H2 e2 r => q v H2 e2 r.rep
section
variable {K : PySem.W.Frag} {σ : L2.St} {H H' : Hp} {te ta tb : TE} {tr : TA} {d : Nat} {s : Sh} {ss : List Sh}
theorem er_var {i : Nat} {v : V} (h : σ[i]? = some (some v)) (hr : Rep H d v s) : EvR (tVar i) σ H d s := fun H1 e Q q => ⟨v, h, q v H1 (Ex.refl _) (hr.ex e)⟩
theorem er_nil : EvRA tNil σ H d [] := fun H1 _ _ q => q [] H1 (Ex.refl _) ⟨rfl, fun i y s' h => by simp at h⟩
theorem er_cons (h : EvR ta σ H d s) (hr : EvRA tr σ H d ss) : EvRA (tCons ta tr) σ H d (s :: ss) := fun H1 e Q q => h H1 e _ fun v H2 e2 r2 => hr H2 (Ex.trans e e2) _ fun vs H3 e3 r3 => q (v :: vs) H3 (Ex.trans e2 e3) (RepA.cons (r2.ex e3) r3)
theorem er_lst (h : EvRA tr σ H d ss) (hl : ss.length ≤ 40000) : EvR (tLst tr) σ H (d + 1) (.l ss) := fun H1 e Q q => h H1 e _ fun vs H2 e2 r2 => ⟨sz_of (by rw [r2.1]; omega), fun p np => q (.ref p) _ (Ex.trans e2 (Ex.new np)) ⟨p, vs, rfl, trivial, upd_same, r2.1, by rw [r2.1]; exact hl, (RepA.ex (Ex.new np) r2).2⟩⟩
theorem er_tup (h : EvRA tr σ H d ss) (hl : ss.length ≤ 40000) : EvR (tTup tr) σ H (d + 1) (.t ss) := fun H1 e Q q => h H1 e _ fun vs H2 e2 r2 => ⟨sz_of (by rw [r2.1]; omega), fun p np => q (.ref p) _ (Ex.trans e2 (Ex.new np)) ⟨p, vs, rfl, trivial, upd_same, r2.1, by rw [r2.1]; exact hl, (RepA.ex (Ex.new np) r2).2⟩⟩
theorem er_rep {n : Nat} (h1 : EvR ta σ H (d + 1) (.l ss)) (h2 : ∀ H1, Ex H H1 → Ev tb σ H1 (.int (n : Int))) (hl : ss.length * n ≤ 40000) (hn : n ≤ 40000) : EvR (tOp rRep ta tb) σ H (d + 1) (.l (List.replicate n ss).flatten) := fun H1 e Q q => h1 H1 e _ fun v H2 e2 r2 => h2 H2 (Ex.trans e e2) H2 (Ex.refl _) _ fun H3 e3 => by
  obtain ⟨a, xs, rfl, ba, ha, ra⟩ := rep_l r2
  refine ⟨a, (n : Int), xs, rfl, rfl, e3 _ _ ha, by omega, by omega, sz_of (by rw [ra.1, Int.toNat_natCast]; omega), fun p np => q (.ref p) _ (Ex.trans e2 (Ex.trans e3 (Ex.new np))) ?_⟩
  have r := RepA_rep ((ra.ex e3).ex (Ex.new np (o := .lst (List.replicate ((n : Int)).toNat xs).flatten))) n
  refine ⟨p, (List.replicate ((n : Int)).toNat xs).flatten, rfl, trivial, upd_same, ?_, ?_, ?_⟩
  · rw [Int.toNat_natCast]; exact r.1
  · rw [Int.toNat_natCast, r.1, flat_len, Nat.mul_comm]; exact hl
  · rw [Int.toNat_natCast]
    rw [Int.toNat_natCast] at r
    exact r.2
theorem ev_sameR (h1 : EvR ta σ H d s) (h2 : EvR tb σ H d s) : Ev (tCall (spSame d) [] E0 (tCons ta (tCons tb tNil))) σ H (.bl true) := fun H1 e Q q =>
  h1 H1 e _ fun v H2 e2 r2 => h2 H2 (Ex.trans e e2) _ fun u H3 e3 r3 => ⟨v, u, rfl, Rep.same (RepB.ex e3 r2) r3, fun H4 e4 => q H4 (Ex.trans e2 (Ex.trans e3 e4))⟩
end
section
variable {K : PySem.W.Frag}
theorem s_retR {te : TE} {D : Ends} {σ : L2.St} {H : Hp} {d : Nat} {s : Sh} (h : EvR te σ H d s) (k : ∀ v H1, Ex H H1 → Rep H1 d v s → D.rt v H1) : tRet te D σ H := h H (Ex.refl _) _ k
theorem ev_k1 {σ : L2.St} {H : Hp} {i n : Nat} (h : σ[i]? = some (some (.int (n : Nat)))) : Ev (tOp (rI0 fun i j => .int (i + j)) (tVar i) (tC (.int 1))) σ H (.int ((n : Int) + 1)) := ev_op (ev_var h) ev_c fun H1 e Q q => ⟨_, _, rfl, rfl, q H1 (Ex.refl _)⟩
theorem ev_m1 {σ : L2.St} {H : Hp} : Ev (tUn (rU fun i => .int (-i)) (tC (.int 1))) σ H (.int (-1)) := fun H1 e Q q => ⟨1, rfl, q H1 (Ex.refl _)⟩
end
section
variable {K : PySem.W.Frag} {σ : L2.St} {H : Hp} {te : TE}
theorem r_if {t : TT} {ta tb : TE} {D : Ends} {b : Bool} (h : EvT t σ H b) (k1 : b = true → ∀ H1, Ex H H1 → ta σ H1 D.rt) (k2 : b = false → ∀ H1, Ex H H1 → tb σ H1 D.rt) : tRet (tIf t ta tb) D σ H := h H (Ex.refl _) _ fun H1 e => by
  cases b with
  | true => exact k1 rfl H1 e
  | false => exact k2 rfl H1 e
theorem eu_tuple {p : Addr} {xs : List V} {ta : TE} (ha : Ev ta σ H (.ref p)) (h : H p = some (.lst xs)) : EvU (tCB (fun xs H Q => ∃ p ys, xs = [V.ref p] ∧ ((SqL K H p ys ∧ ∀ l, H l = none → Q (.ref l) (upd H l (.tup ys))) ∨ (SqT K H p ys ∧ Q (.ref p) H))) (tCons ta tNil)) σ H xs := fun H1 e Q q => ha H1 e _ fun H2 e2 => ⟨p, xs, rfl, .inl ⟨SqL.of (Ex.trans e e2 _ _ h), fun l nl => q l _ (fresh_back e2 nl) (Ex.trans e2 (Ex.new nl)) upd_same⟩⟩
theorem eu_catT {ta tb : TE} {xs ys : List V} (h : EvU ta σ H xs) (k : EvU tb σ H ys) (hx : xs ≠ []) (hy : ys ≠ []) (hl : xs.length + ys.length ≤ 100000) : EvU (tOp (rCatT K) ta tb) σ H (xs ++ ys) := fun H1 e Q q => h H1 e _ fun p H2 np e2 hp => k H2 (Ex.trans e e2) _ fun p' H3 np' e3 hp' => ⟨p, p', xs, ys, rfl, rfl, SqT.of (e3 _ _ hp), SqT.of hp', hx, sz_of hl, (fun z => absurd z hy), fun _ r nr => q r _ (fresh_back (Ex.trans e2 e3) nr) (Ex.trans (Ex.trans e2 e3) (Ex.new nr)) upd_same⟩
end
theorem str_eqD (x y : Str) : decide (V.str x = V.str y) = decide (x = y) := by
  have e : (V.str x = V.str y) = (x = y) := propext ⟨V.str.inj, congrArg _⟩
  simp only [e]
theorem str_flt (z : Str) : flt (.str z) := .inr (.inr (.inl ⟨z, rfl⟩))
end Lm

namespace Lm
open PySem L2 Evl RZ TL
theorem ev_lenZ {σ : L2.St} {H : Hp} {te : TE} {x : Str} (h : Ev te σ H (.str x)) (hx : x.length ≤ 100000) : Ev (tCB (fun xs H Q => ∃ z : Str, xs = [.str z] ∧ z.length ≤ sizeLine ∧ Q (.int z.length) H) (tCons te tNil)) σ H (.int (x.length : Nat)) := fun H1 e Q q => h H1 e _ fun H2 e2 => ⟨x, rfl, sz_of hx, q H2 e2⟩
section
variable {P : Program} {w : World} {K : PySem.W.Frag} {mg : Str → Option Value} {base : Heap} {f : Addr} {fd : FuncData}
def spLIsW : Sp := fun vs H Q _ => ∃ x : Str, vs = [.str x] ∧ x.length ≤ 1000 ∧ ∀ H', Ex H H' → Q (.bl (isW x)) H'
abbrev s_lis_word : Stmt := top 37
theorem sc_lis_word : FnScope ["_law_x", "_law_sign"] ["_law_x"] (defScope s_lis_word) := ⟨rfl, rfl, rfl, by decide +kernel, rfl, by decide +kernel, by decide +kernel⟩
theorem ok_lis_word (F : L2.Fun K "_law_is_word" "_law_is_word" s_lis_word f fd) (T : Blt mg) : FnOk P w K mg base CX0 1 f fd ["_law_x"] spLIsW := by
  refine F.ok sc_lis_word (fun vs H Q E h => ?_) (fun cdv A outer s H vs Q E hr h => ?_)
  · obtain ⟨x, rfl, _⟩ := h
    rfl
  · obtain ⟨x, rfl, hx, k⟩ := h
    refine ⟨_, (pss_one (ps_ret (pe_and (pe_cmpR op_gt (pe_callB call_len_str (by rfl) T.b_len PySem.boot_len (pa_cons (pv 0) pa_nil)) pe_int (nomark _)) (pe_and (pe_cmpR op_lt (pe_callB call_len_str (by rfl) T.b_len PySem.boot_len (pa_cons (pv 0) pa_nil)) pe_int (nomark _)) (pe_one (pe_callB (cr_all rfl) (by rfl) T.b_all (by decide +kernel) (by exact (pa_cons (pe_lc (own := [("_law_sign", 1)]) (g := gName 1) (tt := tYes) (te := (tOp rInSign (tVar 1) (tC (.str "abcdefghijklmnopqrstuvwxyz")))) rfl sc_lis_word.nd (pi_str (pv 0)) (blkOk_by (own := [("_law_sign", 1)]) (by kernel_rfl)) (fun _ _ _ _ _ => (pg_name (i := 1) sc_lis_word.nd rfl (by first | exact Or.inl rfl | exact Or.inr rfl))) (fun _ _ _ _ _ => pts_nil) (fun _ _ _ _ _ => by exact (pe_cmpR op_in_sign (pv 1) pe_str rfl))) pa_nil)))))))), ?_⟩
    have hl : x.length = x.cps.size := rfl
    have al : Ev (tCB (rAll K) (tCons (tLc (iStr (tVar 0)) (gName 1) tYes (tOp rInSign (tVar 1) (tC (.str "abcdefghijklmnopqrstuvwxyz"))) [1]) tNil)) [some (.str x), none] H (.bl ((tl x).all fun c => decide (97 ≤ c) && decide (c ≤ 122))) := fun H1 e1 Q q => by
      refine ⟨_, rfl, x, rfl, fun D nD => lc_it walk_str (fun j H' => Ex H1 H' ∧ H' D = some (.lst (((x.cps.toList.take j).map fun c => decide (97 ≤ c) && decide (c ≤ 122)).map V.bl))) ⟨Ex.new nD, upd_same⟩ (fun _ _ _ _ => True.intro) ?_ ?_⟩
      · rintro j y H' H'' hj ⟨e, hD⟩ ⟨rfl, c, hc, rfl⟩
        refine ⟨rfl, _, rfl, _, _, rfl, rfl, _, hD, small1000 (by simp; omega), Ex.mut e nD, ?_⟩
        have hc' : x.cps.toList[j]? = some c := by simpa using hc
        rw [upd_same, List.take_succ, hc', isW_sign]
        simp
      · rintro H' ⟨e, hD⟩
        refine ⟨_, _, rfl, SqL.of hD, ?_⟩
        have e2 : ((((x.cps.toList.take x.cps.size).map fun c => decide (97 ≤ c) && decide (c ≤ 122)).all id)) = (tl x).all fun c => decide (97 ≤ c) && decide (c ≤ 122) := by
          rw [show x.cps.size = x.cps.toList.length from by simp, List.take_length]
          simp
        rw [e2]
        exact q H' e
    refine s_ret (ev_is (ev_andV (ev_op (ev_lenZ (ev_var rfl) (by omega)) ev_c rv_I0) fun _ => ev_andV (ev_op (ev_lenZ (ev_var rfl) (by omega)) ev_c rv_I0) fun _ => al) ?_) fun H1 e1 => k H1 e1
    congr 1
    unfold isW
    have e1 : decide ((0 : Int) < (x.length : Nat)) = decide (1 ≤ x.cps.size) := by congr 1; exact propext ⟨fun h => by omega, fun h => by omega⟩
    have e2 : decide (((x.length : Nat) : Int) < 9) = decide (x.cps.size ≤ 8) := by congr 1; exact propext ⟨fun h => by omega, fun h => by omega⟩
    rw [e1, e2, Bool.and_assoc]
def waysL : List Str := ["stay", "field", "greater"]
theorem ways_L : ways = waysL := by decide +kernel
def spLShow : Sp := fun vs H Q _ => ∃ l : Str, vs = [.str l] ∧ l.length ≤ 900 ∧ ∀ H', Ex H H' → Q (.bl (showOf l).isSome) H'
abbrev s_is_show : Stmt := top 39
theorem sc_is_show : FnScope ["_law_line_here", "_law_words"] ["_law_line_here"] (defScope s_is_show) := ⟨rfl, rfl, rfl, by decide +kernel, rfl, by decide +kernel, by decide +kernel⟩
theorem ok_is_show {fW : Addr} {dW : FuncData} (F : L2.Fun K "_law_is_show" "_law_is_show" s_is_show f fd) (T : Blt mg) (D_lis_word : DefOk P w K mg base 1 "_law_is_word" fW dW ["_law_x"] spLIsW) : FnOk P w K mg base CX0 2 f fd ["_law_line_here"] spLShow := by
  refine F.ok sc_is_show (fun vs H Q E h => ?_) (fun cdv A outer s H vs Q E hr h => ?_)
  · obtain ⟨l, rfl, _⟩ := h
    rfl
  · obtain ⟨l, rfl, hl, k⟩ := h
    refine ⟨_, (pss_cons (ps_set (i := 1) sc_is_show.nd rfl (by first | exact Or.inl rfl | exact Or.inr rfl) (pe_split (pv 0) pe_str))
        (pss_cons (ps_if (PW.pt (pw_or (pt_cmpR op_ne (pe_callB call_len_seq (by rfl) T.b_len PySem.boot_len (pa_cons (pv 1) pa_nil)) pe_int (nomark _)) (pw_or (pt_cmpR op_ne (pe_ix ix_list (pv 1) pe_int (fun _ _ => rfl)) pe_str (nomark _)) (pw_or1 (pt_not (pt_val (pe_d D_lis_word (hr.mono (by decide)) (pa_cons (pe_ix ix_list (pv 1) pe_int (fun _ _ => rfl)) pa_nil)))))))) (pss_one (ps_ret pe_bl)) pss_nil)
        (pss_one (ps_ret (pe_cmpR op_in_seq (pe_ix ix_list (pv 1) pe_int (fun _ _ => rfl)) (pe_lst (pa_cons pe_str (pa_cons pe_str (pa_cons pe_str pa_nil)))) (by rfl)))))), ?_⟩
    refine ⟨_, rfl, ⟨_, rfl⟩, l, " ", rfl, rfl, rfl, sz_of (by omega), fun p np => ?_⟩
    have hsp : Txt.split l " " = wordsOf l := rfl
    rw [hsp]
    dsimp only [gName, L2.start, List.set]
    have e1 := Ex.new np (o := .lst ((wordsOf l).map V.str))
    have hp : (upd H p (.lst ((wordsOf l).map V.str))) p = some (.lst ((wordsOf l).map V.str)) := upd_same
    generalize upd H p (.lst ((wordsOf l).map V.str)) = H1 at e1 hp
    have ix : ∀ {H2 : Hp} (i : Nat), i < (wordsOf l).length → Ex H1 H2 → Ev (tOp (rIxL K) (tVar 1) (tC (.int (i : Nat)))) [some (.str l), some (.ref p)] H2 (.str ((wordsOf l).getD i "")) := fun i hi e => ev_op (ev_var rfl) ev_c (rv_ixL (SqL.of (e _ _ hp)) (atI_nat (by
      rw [List.getElem?_map, List.getD_eq_getElem?_getD, List.getElem?_eq_getElem hi]
      rfl)))
    have eln : EvT (tTest (tOp rNe (tCB (rLenS K) (tCons (tVar 1) tNil)) (tC (.int 3)))) [some (.str l), some (.ref p)] H1 (!decide ((wordsOf l).length = 3)) := et_is (et_test (ev_op (ev_lenL (ev_var rfl) hp) ev_c (rv_ne rfl))) (by
      have : (V.int (((wordsOf l).map V.str).length : Nat) = V.int 3) = ((wordsOf l).length = 3) := propext ⟨fun z => by have := V.int.inj z; rw [List.length_map] at this; omega, fun z => by rw [List.length_map, z]; rfl⟩
      simp only [this])
    have e0 : (wordsOf l).length = 3 → EvT (tTest (tOp rNe (tOp (rIxL K) (tVar 1) (tC (.int 0))) (tC (.str "show")))) [some (.str l), some (.ref p)] H1 (!decide ((wordsOf l).getD 0 "" = "show")) := fun h3 => et_is (et_test (ev_op (ix 0 (by omega) (Ex.refl _)) ev_c (rv_ne rfl))) (by
      have : (V.str ((wordsOf l).getD 0 "") = V.str "show") = ((wordsOf l).getD 0 "" = "show") := propext ⟨V.str.inj, congrArg _⟩
      simp only [this])
    have e2 : (wordsOf l).length = 3 → Ev (tCall spLIsW [] E0 (tCons (tOp (rIxL K) (tVar 1) (tC (.int 2))) tNil)) [some (.str l), some (.ref p)] H1 (.bl (isW ((wordsOf l).getD 2 ""))) := fun h3 H2 e2 Q q => ix 2 (by omega) e2 H2 (Ex.refl _) _ fun H3 e3 => ⟨_, rfl, by
      have := words_len l ((wordsOf l).getD 2 "") (by rw [List.getD_eq_getElem?_getD, List.getElem?_eq_getElem (by omega)]; exact List.getElem_mem _)
      omega, fun H4 e4 => q H4 (Ex.trans e3 e4)⟩
    refine q_when (b := !(decide ((wordsOf l).length = 3) && (decide ((wordsOf l).getD 0 "" = "show") && isW ((wordsOf l).getD 2 "")))) (et_is (et_or eln fun h => et_or (e0 (of_decide_eq_true (by simpa using h))) fun _ => et_not (et_B (e2 (of_decide_eq_true (by simpa using h))))) (by simp only [Bool.not_and])) (fun hb H2 x2 => ?_) (fun hb H2 x2 => ?_)
    · have hno : showOf l = none := by
        cases h : showOf l with
        | none => rfl
        | some z =>
          have := showOf_some h
          rw [this.2.2] at hb
          unfold wordsS at hb
          have h1 : (!(decide ((3 : Nat) = 3) && (decide (("show" : Str) = "show") && isW z.2))) = true := hb
          rw [this.2.1] at h1
          simp at h1
      have k' := fun H' e => k H' e
      rw [hno] at k'
      exact s_ret ev_c fun H3 e3 => k' H3 (Ex.trans e1 (Ex.trans x2 e3))
    · rw [Bool.not_eq_false', Bool.and_eq_true, Bool.and_eq_true] at hb
      obtain ⟨h3, h0, hw⟩ := hb
      have h3 := of_decide_eq_true h3
      have h0 := of_decide_eq_true h0
      have e : (showOf l).isSome = decide ((wordsOf l).getD 1 "" ∈ waysL) := by
        match hws : wordsOf l, h3 with
        | [a, b, c], _ =>
          rw [hws] at h0 hw
          have ha : a = "show" := h0
          have hc : isW c = true := hw
          show _ = decide (b ∈ waysL)
          unfold showOf
          rw [hws]
          show (if a = "show" ∧ b ∈ ways ∧ isW c = true then some (b, c) else none).isSome = _
          rw [ways_L]
          by_cases hb : b ∈ waysL
          · rw [if_pos ⟨ha, hb, hc⟩, decide_eq_true hb]; rfl
          · rw [if_neg fun z => hb z.2.1, decide_eq_false hb]; rfl
      have k' := fun H' e => k H' e
      rw [e] at k'
      refine ix 1 (by omega) x2 H2 (Ex.refl _) _ fun H3 e3 => ⟨by show 3 ≤ sizeLine; decide, fun q nq => ?_⟩
      refine ⟨q, waysL.map V.str, rfl, .inl (SqL.of upd_same), rfl, strs_flat1 _, ?_⟩
      show Q (.bl (inV (.str _) (waysL.map V.str))) _
      rw [strs_in1]
      exact k' _ (Ex.trans e1 (Ex.trans x2 (Ex.trans e3 (Ex.new nq))))
end
end Lm

namespace Lm
open PySem L2 Evl RZ TL
theorem lay_strsO : ∀ ws : List Str, (∀ x ∈ ws, PyData.strOk x = true) → PyData.canLayAll0 (ws.map PyData.str) = true
  | [], _ => rfl
  | x :: r, h => by
    show (PyData.strOk x && PyData.canLayAll0 (r.map PyData.str)) = true
    rw [h x List.mem_cons_self, lay_strsO r fun y hy => h y (List.mem_cons_of_mem _ hy)]
    rfl
theorem shapedL_strsO (ws : List Str) (h : ∀ x ∈ ws, OkC x) : PySem.SeqAt.shaped (.list (ws.map PyData.str)) = true := by
  show (PyData.canLayAll0 (ws.map PyData.str) && decide (PyData.depthAll (ws.map PyData.str) + 1 ≤ 64)) = true
  rw [lay_strsO ws fun x hx => okc_strOk (h x hx), depth_strs]
  rfl
theorem eqvL_strsO (ws vs : List Str) : PyData.eqv (.list (ws.map PyData.str)) (.list (vs.map PyData.str)) = decide (ws = vs) := eqvAll_strs ws vs
section
variable {K : PySem.W.Frag} {σ : L2.St} {H : Hp} {ta tb : TE}
theorem ev_neSL {ws vs : List Str} {q : Addr} (h1 : EvL ta σ H (ws.map V.str)) (h2 : Ev tb σ H (.ref q)) (hq : H q = some (.lst (vs.map V.str))) (o1 : ∀ x ∈ ws, OkC x) (o2 : ∀ x ∈ vs, OkC x) : Ev (tOp (rNeD K) ta tb) σ H (.bl (!decide (ws = vs))) := fun H1 e Q k =>
  h1 H1 e _ fun p H2 np e2 hp => h2 H2 (Ex.trans e e2) _ fun H3 e3 => ⟨_, _, .lst (sq_of (e3 _ _ hp)) (dpAll_strs ws), .lst (sq_of (Ex.trans e (Ex.trans e2 e3) _ _ hq)) (dpAll_strs vs), shapedL_strsO ws o1, shapedL_strsO vs o2, by rw [eqvL_strsO]; exact k H3 (Ex.trans e2 e3)⟩
theorem ev_eqSL {ws vs : List Str} (h1 : EvL ta σ H (ws.map V.str)) (h2 : EvL tb σ H (vs.map V.str)) (o1 : ∀ x ∈ ws, OkC x) (o2 : ∀ x ∈ vs, OkC x) : Ev (tOp (rEqD K) ta tb) σ H (.bl (decide (ws = vs))) := fun H1 e Q k =>
  h1 H1 e _ fun p H2 np e2 hp => h2 H2 (Ex.trans e e2) _ fun q H3 nq e3 hq => ⟨_, _, .lst (sq_of (e3 _ _ hp)) (dpAll_strs ws), .lst (sq_of hq) (dpAll_strs vs), shapedL_strsO ws o1, shapedL_strsO vs o2, by rw [eqvL_strsO]; exact k H3 (Ex.trans e2 e3)⟩
theorem el_slSt {p : Addr} {xs : List V} {i : Nat} {a b : Int} (hi : σ[i]? = some (some (.ref p))) (hp : H p = some (.lst xs)) (hz : (pickV xs (some a) (some b) (some 2)).length ≤ 100000) : EvL (tSlSt K (tVar i) (tPart (tC (.int a))) (tPart (tC (.int b))) (tPart (tC (.int 2)))) σ H (pickV xs (some a) (some b) (some 2)) := fun H1 e Q q =>
  ⟨_, hi, a, rfl, b, rfl, 2, rfl, p, xs, rfl, SqL.of (e _ _ hp), by decide, sz_of hz, fun D nD => q D _ nD (Ex.new nD) upd_same⟩
theorem eu_tupL {xs : List V} (h : EvL ta σ H xs) : EvU (tCB (fun xs H Q => ∃ p ys, xs = [V.ref p] ∧ ((SqL K H p ys ∧ ∀ l, H l = none → Q (.ref l) (upd H l (.tup ys))) ∨ (SqT K H p ys ∧ Q (.ref p) H))) (tCons ta tNil)) σ H xs := fun H1 e Q q => h H1 e _ fun p H2 np e2 hp => ⟨p, xs, rfl, .inl ⟨SqL.of hp, fun l nl => q l _ (fresh_back e2 nl) (Ex.trans e2 (Ex.new nl)) upd_same⟩⟩
end
theorem pick2_13 (a1 a2 a3 a4 a5 a6 a7 a8 a9 a10 a11 a12 a13 : V) : pickV [a1, a2, a3, a4, a5, a6, a7, a8, a9, a10, a11, a12, a13] (some 2) (some 12) (some 2) = [a3, a5, a7, a9, a11] := by
  unfold pickV
  have e : (sliceRange (sliceBounds (some 2) (some 12) (some 2) 13).1 (sliceBounds (some 2) (some 12) (some 2) 13).2.1 (sliceBounds (some 2) (some 12) (some 2) 13).2.2) = [2, 4, 6, 8, 10] := by decide +kernel
  show (sliceRange (sliceBounds (some 2) (some 12) (some 2) 13).1 (sliceBounds (some 2) (some 12) (some 2) 13).2.1 (sliceBounds (some 2) (some 12) (some 2) 13).2.2).filterMap _ = _
  rw [e]
  rfl
theorem thirteen_of {ws : List Str} (h : ws.length = 13) : ∃ a b c d e f g i j k l m n, ws = [a, b, c, d, e, f, g, i, j, k, l, m, n] := by
  match ws, h with
  | [a, b, c, d, e, f, g, i, j, k, l, m, n], _ => exact ⟨a, b, c, d, e, f, g, i, j, k, l, m, n, rfl⟩
def parts5 : List Str := ["read", "jump", "anew", "give", "take"]
theorem parts5_ok : ∀ x ∈ parts5, OkC x := fun x hx => okc_dec (by revert x; decide +kernel)
theorem field13 {l : Str} {w0 w1 w2 w3 w4 w5 w6 w7 w8 w9 w10 w11 w12 : Str} (hw : wordsOf l = [w0, w1, w2, w3, w4, w5, w6, w7, w8, w9, w10, w11, w12]) :
    fieldOf l = if w0 = "field" ∧ isW w1 = true ∧ ([w2, w4, w6, w8, w10] : List Str) = parts5 then (if fldB w1 [w3, w5, w7, w9, w11, w12] = true then some (w1, [w3, w5, w7, w9, w11, w12]) else none) else none := by
  cases h : fieldOf l with
  | some z =>
    obtain ⟨hf, hz⟩ := fieldOf_some h
    obtain ⟨nm, r⟩ := z
    obtain ⟨a, b, c, d, e, f, rfl⟩ := six_of hf.len
    rw [hw, wordsF_at] at hz
    simp only [List.cons.injEq, and_true] at hz
    obtain ⟨rfl, rfl, rfl, rfl, rfl, rfl, rfl, rfl, rfl, rfl, rfl, rfl, rfl⟩ := hz
    rw [if_pos ⟨rfl, hf.wd, rfl⟩, if_pos (fldB_iff.mpr hf)]
  | none =>
    split
    · rename_i hc
      obtain ⟨rfl, h1, h2⟩ := hc
      unfold parts5 at h2
      simp only [List.cons.injEq, and_true] at h2
      obtain ⟨rfl, rfl, rfl, rfl, rfl⟩ := h2
      split
      · rename_i hb
        have := fieldOf_none h _ _ (fldB_iff.mp hb)
        rw [wordsF_at, hw] at this
        exact absurd rfl this
      · rfl
    · rfl
theorem field_no13 {l : Str} (h : (wordsOf l).length ≠ 13) : fieldOf l = none := by
  cases e : fieldOf l with
  | none => rfl
  | some z =>
    obtain ⟨hf, hz⟩ := fieldOf_some e
    rw [hz, wordsF_len hf.len] at h
    exact absurd rfl h
section
variable {P : Program} {w : World} {K : PySem.W.Frag} {mg : Str → Option Value} {base : Heap} {f : Addr} {fd : FuncData}
def spLField : Sp := fun vs H Q _ => ∃ l : Str, vs = [.str l] ∧ l.length ≤ 900 ∧ OkC l ∧ (∀ z, fieldOf l = some z → ∀ p H', H p = none → Ex H H' → H' p = some (.tup ((z.1 :: z.2).map V.str)) → Q (.ref p) H') ∧ (fieldOf l = none → ∀ H', Ex H H' → Q .non H')
abbrev s_field_of : Stmt := top 38
theorem sc_field_of : FnScope ["_law_line_here", "_law_words", "_law_parts_here", "_law_row", "_law_word", "_law_some"] ["_law_line_here"] (defScope s_field_of) := ⟨rfl, rfl, rfl, by decide +kernel, rfl, by decide +kernel, by decide +kernel⟩
theorem ok_field_of {fW fP : Addr} {dW dP : FuncData} (F : L2.Fun K "_law_field_of" "_law_field_of" s_field_of f fd) (T : Blt mg) (D_lis_word : DefOk P w K mg base 1 "_law_is_word" fW dW ["_law_x"] spLIsW) (D_parts : DefOk P w K mg base 1 "_law_parts" fP dP [] spParts) : FnOk P w K mg base CX0 2 f fd ["_law_line_here"] spLField := by
  refine F.ok sc_field_of (fun vs H Q E h => ?_) (fun cdv A outer s H vs Q E hr h => ?_)
  · obtain ⟨l, rfl, _⟩ := h
    rfl
  · obtain ⟨l, rfl, hl, hok, kS, kN⟩ := h
    refine ⟨_, (pss_cons (ps_par (i := 1) (j := 2) (by rfl) sc_field_of.nd rfl rfl (by decide) rfl rfl (pa_cons (pe_split (pv 0) pe_str) (pa_cons (pe_lst (pa_cons pe_str (pa_cons pe_str (pa_cons pe_str (pa_cons pe_str (pa_cons pe_str pa_nil)))))) pa_nil)) (by rfl))
        (pss_cons (ps_if (PW.pt (pw_or (pt_cmpR op_ne (pe_callB call_len_seq (by rfl) T.b_len PySem.boot_len (pa_cons (pv 1) pa_nil)) pe_int (nomark _)) (pw_or (pt_cmpR op_ne (pe_ix ix_list (pv 1) pe_int (fun _ _ => rfl)) pe_str (nomark _)) (pw_or (pt_not (pt_val (pe_d D_lis_word (hr.mono (by decide)) (pa_cons (pe_ix ix_list (pv 1) pe_int (fun _ _ => rfl)) pa_nil)))) (pw_or1 (pt_cmpR (op_neD hr.units) (pe_slSt (pv 1) (po_some pe_int) (po_some pe_int) (po_some pe_int)) (pv 2) (nomark _))))))) (pss_one (ps_ret pe_non)) pss_nil)
        (pss_cons (ps_set (i := 3) sc_field_of.nd rfl (by first | exact Or.inl rfl | exact Or.inr rfl) (pe_op op_catT (pe_op op_catT (pe_tup (pa_cons (pe_ix ix_list (pv 1) pe_int (fun _ _ => rfl)) pa_nil)) (pe_callTy call_tuple_of (by rfl) T.b_tuple (by decide +kernel) (pa_cons (pe_slSt (pv 1) (po_some pe_int) (po_some pe_int) (po_some pe_int)) pa_nil))) (pe_tup (pa_cons (pe_ix ix_list (pv 1) pe_int (fun _ _ => rfl)) pa_nil))))
        (pss_one (ps_ret (pe_ifExp (pt_val (pe_callB (cr_all rfl) (by rfl) T.b_all (by decide +kernel) (by exact (pa_cons (pe_lc (own := [("_law_word", 4), ("_law_some", 5)]) (g := gTup K 2 (gCons (gName 4) (gCons (gName 5) gNil))) (tt := tYes) (te := (tOp (rIn K false) (tVar 4) (tVar 5))) rfl sc_field_of.nd (pi_zipN rfl T.b_zip (pa_cons (pe_slice sl_tup (pv 3) (po_some pe_int) po_none) (pa_cons (pe_d0 D_parts (hr.mono (by decide))) pa_nil))) (blkOk_by (own := [("_law_word", 4), ("_law_some", 5)]) (by kernel_rfl)) (fun _ _ _ _ _ => (pg_tup rfl (pgs_cons (pg_name (i := 4) sc_field_of.nd rfl (by first | exact Or.inl rfl | exact Or.inr rfl)) (pgs_cons (pg_name (i := 5) sc_field_of.nd rfl (by first | exact Or.inl rfl | exact Or.inr rfl)) pgs_nil)))) (fun _ _ _ _ _ => pts_nil) (fun _ _ _ _ _ => by exact (pe_cmpR op_in_seq (pv 4) (pv 5) (by rfl)))) pa_nil)))) (pv 3) pe_non)))))), ?_⟩
    refine ⟨_, rfl, ⟨_, rfl⟩, l, " ", rfl, rfl, rfl, sz_of (by omega), fun p np => ⟨by show 5 ≤ sizeLine; decide, fun q nq => ⟨_, _, rfl, ?_⟩⟩⟩
    have hsp : Txt.split l " " = wordsOf l := rfl
    rw [hsp] at nq ⊢
    dsimp only [gName, L2.start, List.set]
    have e1 := Ex.new np (o := .lst ((wordsOf l).map V.str))
    have hp1 : (upd H p (.lst ((wordsOf l).map V.str))) p = some (.lst ((wordsOf l).map V.str)) := upd_same
    generalize upd H p (.lst ((wordsOf l).map V.str)) = H0 at e1 hp1 nq ⊢
    have e2 := Ex.new nq (o := .lst (parts5.map V.str))
    have hq : (upd H0 q (.lst (parts5.map V.str))) q = some (.lst (parts5.map V.str)) := upd_same
    have hp := e2 _ _ hp1
    have e02 := Ex.trans e1 e2
    show tSeq _ _ _ _ (upd H0 q (.lst (parts5.map V.str)))
    generalize upd H0 q (.lst (parts5.map V.str)) = H1 at e2 hq hp e02 ⊢
    have ho := okc_words hok
    have hwl := words_len l
    generalize hW : wordsOf l = W at hp ho hwl ⊢
    have eln : EvT (tTest (tOp rNe (tCB (rLenS K) (tCons (tVar 1) tNil)) (tC (.int 13)))) [some (.str l), some (.ref p), some (.ref q), none, none, none] H1 (!decide (W.length = 13)) := et_is (et_test (ev_op (ev_lenL (ev_var rfl) hp) ev_c (rv_ne rfl))) (by
      have : (V.int ((W.map V.str).length : Nat) = V.int 13) = (W.length = 13) := propext ⟨fun z => by have := V.int.inj z; rw [List.length_map] at this; omega, fun z => by rw [List.length_map, z]; rfl⟩
      simp only [this])
    by_cases h13 : W.length = 13
    · obtain ⟨w0, w1, w2, w3, w4, w5, w6, w7, w8, w9, w10, w11, w12, rfl⟩ := thirteen_of h13
      have hF := field13 hW
      have ix : ∀ {H2 : Hp} {σ : L2.St} (i : Nat) (x : Str), ([w0, w1, w2, w3, w4, w5, w6, w7, w8, w9, w10, w11, w12] : List Str)[i]? = some x → Ex H1 H2 → σ[1]? = some (some (.ref p)) → Ev (tOp (rIxL K) (tVar 1) (tC (.int (i : Nat)))) σ H2 (.str x) := fun i x hx e h1 => ev_op (ev_var h1) ev_c (rv_ixL (SqL.of (e _ _ hp)) (atI_nat (by rw [List.getElem?_map, hx]; rfl)))
      have e0 : EvT (tTest (tOp rNe (tOp (rIxL K) (tVar 1) (tC (.int 0))) (tC (.str "field")))) [some (.str l), some (.ref p), some (.ref q), none, none, none] H1 (!decide (w0 = "field")) := et_is (et_test (ev_op (ix 0 w0 rfl (Ex.refl _) rfl) ev_c (rv_ne rfl))) (by rw [str_eqD])
      have e2' : Ev (tCall spLIsW [] E0 (tCons (tOp (rIxL K) (tVar 1) (tC (.int 1))) tNil)) [some (.str l), some (.ref p), some (.ref q), none, none, none] H1 (.bl (isW w1)) := fun H2 e2 Q q => ix 1 w1 rfl e2 rfl H2 (Ex.refl _) _ fun H3 e3 => ⟨_, rfl, by have := hwl w1 (by simp); omega, fun H4 e4 => q H4 (Ex.trans e3 e4)⟩
      have e3' : Ev (tOp (rNeD K) (tSlSt K (tVar 1) (tPart (tC (.int 2))) (tPart (tC (.int 12))) (tPart (tC (.int 2)))) (tVar 2)) [some (.str l), some (.ref p), some (.ref q), none, none, none] H1 (.bl (!decide (([w2, w4, w6, w8, w10] : List Str) = parts5))) := by
        have := el_slSt (K := K) (σ := [some (.str l), some (.ref p), some (.ref q), none, none, none]) (i := 1) (a := 2) (b := 12) rfl hp (by show (pickV [_, _, _, _, _, _, _, _, _, _, _, _, _] _ _ _).length ≤ _; rw [pick2_13]; show 5 ≤ 100000; decide)
        have h2 : pickV (([w0, w1, w2, w3, w4, w5, w6, w7, w8, w9, w10, w11, w12] : List Str).map V.str) (some 2) (some 12) (some 2) = ([w2, w4, w6, w8, w10] : List Str).map V.str := pick2_13 _ _ _ _ _ _ _ _ _ _ _ _ _
        rw [h2] at this
        exact ev_neSL this (ev_var rfl) hq (fun x hx => ho x (by simp at hx ⊢; rcases hx with rfl | rfl | rfl | rfl | rfl <;> simp)) parts5_ok
      refine q_when (b := !(decide (w0 = "field") && (isW w1 && decide (([w2, w4, w6, w8, w10] : List Str) = parts5)))) (et_is (et_or eln fun _ => et_or e0 fun _ => et_or (et_not (et_B e2')) fun _ => et_test e3') (by rw [decide_eq_true h13]; simp only [Bool.not_and, Bool.not_true, Bool.false_or])) (fun hb H2 x2 => ?_) (fun hb H2 x2 => ?_)
      · have hno : fieldOf l = none := by
          rw [hF, if_neg]
          rintro ⟨a, b, c⟩
          rw [decide_eq_true a, b, decide_eq_true c] at hb
          cases hb
        exact s_ret ev_c fun H3 e3 => kN hno H3 (Ex.trans e02 (Ex.trans x2 e3))
      · have hc : w0 = "field" ∧ isW w1 = true ∧ ([w2, w4, w6, w8, w10] : List Str) = parts5 := by
          rw [Bool.not_eq_false', Bool.and_eq_true, Bool.and_eq_true] at hb
          exact ⟨of_decide_eq_true hb.1, hb.2.1, of_decide_eq_true hb.2.2⟩
        rw [if_pos hc] at hF
        have hp2 := x2 _ _ hp
        have pk : EvL (tSlSt K (tVar 1) (tPart (tC (.int 3))) (tPart (tC (.int 12))) (tPart (tC (.int 2)))) [some (.str l), some (.ref p), some (.ref q), none, none, none] H2 (([w3, w5, w7, w9, w11] : List Str).map V.str) := by
          have := el_slSt (K := K) (σ := [some (.str l), some (.ref p), some (.ref q), none, none, none]) (i := 1) (a := 3) (b := 12) rfl hp2 (by show (pickV [_, _, _, _, _, _, _, _, _, _, _, _, _] _ _ _).length ≤ _; rw [pick_13]; show 5 ≤ 100000; decide)
          have h2 : pickV (([w0, w1, w2, w3, w4, w5, w6, w7, w8, w9, w10, w11, w12] : List Str).map V.str) (some 3) (some 12) (some 2) = ([w3, w5, w7, w9, w11] : List Str).map V.str := pick_13 _ _ _ _ _ _ _ _ _ _ _ _ _
          rw [h2] at this
          exact this
        have eu := eu_catT (K := K) (eu_catT (K := K) (eu_tup (ea_cons (ix 1 w1 rfl x2 rfl) ea_nil) (by show 1 ≤ 100000; decide)) (eu_tupL (K := K) pk) (fun z => nomatch z) (fun z => nomatch z) (by show 1 + 5 ≤ 100000; decide)) (eu_tup (ea_cons (ix 12 w12 rfl x2 rfl) ea_nil) (by show 1 ≤ 100000; decide)) (fun z => nomatch z) (fun z => nomatch z) (by show 6 + 1 ≤ 100000; decide)
        refine q_asgU eu fun t H3 nt e3 ht => ?_
        have ht : H3 t = some (.tup ((w1 :: ([w3, w5, w7, w9, w11, w12] : List Str)).map V.str)) := ht
        have e03 := Ex.trans e02 (Ex.trans x2 e3)
        have nt0 : H t = none := fresh_back (Ex.trans e02 x2) nt
        generalize hr : ([w3, w5, w7, w9, w11, w12] : List Str) = r at ht hF
        have r6 : r.length = 6 := by rw [← hr]; rfl
        have hcl : cols.length = 6 := rfl
        have hB : fldB w1 r = (r.zip cols).all fun z => decide (z.1 ∈ z.2) := by
          unfold fldB
          rw [hc.2.1, r6]
          rfl
        refine r_if (b := (r.zip cols).all fun z => decide (z.1 ∈ z.2)) (et_B fun H4 e4 Q' q' => ?_) (fun hb H4 e4 => ?_) (fun hb H4 e4 => ?_)
        · refine ⟨_, rfl, (1 : Int), rfl, t, _, rfl, SqT.of (e4 _ _ ht), ?_, fun pp npp => ?_⟩
          · rintro ⟨h1, _⟩
            rw [List.map_cons, sIx1] at h1
            cases h1
          have hcut : cutV ((w1 :: r).map V.str) (some 1) none = r.map V.str := cut1 _ _
          rw [hcut]
          have ep := Ex.new npp (o := .tup (r.map V.str))
          have hpp : (upd H4 pp (.tup (r.map V.str))) pp = some (.tup (r.map V.str)) := upd_same
          generalize upd H4 pp (.tup (r.map V.str)) = H5 at ep hpp ⊢
          refine ⟨rfl, fun cp cxs H6 ncp e6 hcp hT => ⟨pp, cp, _, _, rfl, SqT.of (e6 _ _ hpp), SqL.of hcp, fun D nD => ?_⟩⟩
          have lmin : min (r.map V.str).length cxs.length = 6 := by rw [List.length_map, hT.1, hcl, r6]; rfl
          have hpp6 := e6 _ _ hpp
          refine lc_it (walk_zipN (K := K) rfl) (fun j H' => Ex H6 H' ∧ H' D = some (.lst ((((r.zip cols).take j).map fun z => decide (z.1 ∈ z.2)).map V.bl))) ⟨Ex.new nD, upd_same⟩ (fun j H' _ h => ⟨SqT.of (h.1 _ _ hpp6), SqL.of (h.1 _ _ hcp)⟩) ?_ ?_
          · rintro j y H' H'' hj ⟨e, hD⟩ ⟨tp, y1, y2, rfl, nT, rfl, hy1, hy2⟩
            rw [lmin] at hj
            obtain ⟨x, hx, rfl⟩ := map_inv1 hy1
            obtain ⟨c, hc'⟩ : ∃ c, cols[j]? = some c := ⟨_, List.getElem?_eq_getElem (by omega)⟩
            obtain ⟨cu, hcu, hct⟩ := (hT.same e).2 j c hc'
            have hy2 : cxs[j]? = some y2 := hy2
            rw [hcu] at hy2
            cases hy2
            have et := Ex.new nT (o := .tup [.str x, .ref cu])
            refine ⟨tp, _, rfl, SqT.of upd_same, rfl, _, _, rfl, _, _, rfl, rfl, rfl, ?_⟩
            have hD1 := et _ _ hD
            have e1' := Ex.trans e et
            have hct1 := et _ _ hct
            generalize upd H' tp (.tup [.str x, .ref cu]) = H7 at et hD1 e1' hct1 ⊢
            refine ⟨_, rfl, _, rfl, cu, c.map V.str, rfl, .inr (SqT.of hct1), rfl, strs_flat1 _, ?_⟩
            have hzj : (r.zip cols)[j]? = some (x, c) := List.getElem?_zip_eq_some.mpr ⟨hx, hc'⟩
            refine ⟨_, hD1, small1000 (by simp; omega), Ex.mut e1' nD, ?_⟩
            rw [upd_same, List.take_succ, hzj]
            show some (HO.lst (_ ++ [V.bl (inV (.str x) (c.map V.str))])) = _
            rw [strs_in1]
            simp
          · rintro H' ⟨e, hD⟩
            rw [lmin] at hD
            have hzl : (r.zip cols).length = 6 := by rw [List.length_zip, r6, hcl]; rfl
            rw [List.take_of_length_le (by omega)] at hD
            refine ⟨_, _, rfl, SqL.of hD, ?_⟩
            have e2 : ((r.zip cols).map fun z => decide (z.1 ∈ z.2)).all id = (r.zip cols).all fun z => decide (z.1 ∈ z.2) := by rw [List.all_map]; rfl
            rw [e2]
            exact q' H' (Ex.trans ep (Ex.trans e6 e))
        · rw [if_pos (hB.trans hb)] at hF
          exact ⟨_, rfl, kS _ hF t H4 nt0 (Ex.trans e03 e4) (e4 _ _ ht)⟩
        · rw [if_neg (by rw [hB, hb]; decide)] at hF
          exact kN hF H4 (Ex.trans e03 e4)
    · have hno : fieldOf l = none := field_no13 (by rw [hW]; exact h13)
      refine q_when (b := true) (et_is (et_or (b := false) eln fun h => absurd h (by rw [decide_eq_false h13]; decide)) (by rw [decide_eq_false h13]; rfl)) (fun _ H2 x2 => ?_) (fun z => nomatch z)
      exact s_ret ev_c fun H3 e3 => kN hno H3 (Ex.trans e02 (Ex.trans x2 e3))
end
end Lm

namespace Lm
open PySem L2 Evl RZ TL
theorem joinL_len (S : List Nat) : ∀ ps : List (List Nat), (joinL S ps).length ≤ (ps.map List.length).sum + ps.length * S.length
  | [] => by simp [joinL]
  | [p] => by simp [joinL]
  | p :: q :: r => by
    rw [joinL_cons (by simp)]
    have := joinL_len S (q :: r)
    rw [List.map_cons, List.sum_cons, List.length_cons (a := p), Nat.add_mul]
    simp only [List.length_append]
    omega
theorem join_len (y : Str) (ps : List Str) : (Txt.join y ps).length ≤ (ps.map (·.length)).sum + ps.length * y.length := by
  rw [len_tl, join_eq, tl_join]
  have := joinL_len (tl y) (ps.map tl)
  rw [List.map_map, List.length_map, ← len_tl] at this
  have e : ps.map (List.length ∘ tl) = ps.map (·.length) := List.map_congr_left fun p _ => (len_tl p).symm
  rw [e] at this
  exact this
theorem cutV_to (xs : List V) (k : Nat) : cutV xs none (some (k : Int)) = xs.take k := by
  unfold cutV
  rw [HT.sIx_nat, HT.sIx_none, List.drop_zero, Nat.sub_zero]
  rcases Nat.le_total k xs.length with h | h
  · rw [Nat.min_eq_left h]
  · rw [Nat.min_eq_right h, List.take_of_length_le (Nat.le_refl _), List.take_of_length_le h]
theorem cutV_from (xs : List V) (k : Nat) : cutV xs (some (k : Int)) none = xs.drop k := by
  unfold cutV
  rw [HT.sIx_nat, HT.sIx_none]
  rcases Nat.le_total k xs.length with h | h
  · rw [Nat.min_eq_left h]
    exact List.take_of_length_le (by rw [List.length_drop]; omega)
  · rw [Nat.min_eq_right h, List.drop_of_length_le (Nat.le_refl _), List.drop_of_length_le h]
    simp
section
variable {σ : L2.St} {H : Hp} {ta tb : TE}
theorem el_cat {xs ys : List V} (ha : EvL ta σ H xs) (hb : EvL tb σ H ys) (hl : xs.length + ys.length ≤ 100000) : EvL (tOp rCat ta tb) σ H (xs ++ ys) := fun H1 e Q q => ha H1 e _ fun p H2 np e2 hp => hb H2 (Ex.trans e e2) _ fun p' H3 np' e3 hp' =>
  ⟨p, p', xs, ys, rfl, rfl, e3 _ _ hp, hp', sz_of hl, fun r nr => q r _ (fresh_back (Ex.trans e2 e3) nr) ((e2.trans e3).trans (Ex.new nr)) upd_same⟩
end
section
variable {K : PySem.W.Frag}
theorem strs_of {l : List Str} {v : V} (h : v ∈ l.map V.str) : ∃ m, v = .str m ∧ m ∈ l := by
  obtain ⟨m, hm, rfl⟩ := List.mem_map.mp h
  exact ⟨m, rfl, hm⟩
theorem join_wgt1 {y : Str} (hy : y.length = 1) (ps : List Str) : (Txt.join y ps).length ≤ wgt ps := by
  have := join_len y ps
  rw [hy, Nat.mul_one] at this
  exact this
theorem sg_joinS {M : Nat} {ps : List Str} (h : ∀ p ∈ ps, p.length ≤ M) : SgB M (tl (Txt.join "\n" ps)) := by
  rw [join_eq, tl_join, tl_nl]
  refine sg_join fun p hp => ?_
  obtain ⟨q, hq, rfl⟩ := List.mem_map.mp hp
  exact sg_short (by rw [← len_tl]; exact h q hq)
theorem repL_inv {H : Hp} {B : Addr → Prop} {k : Nat} {v : V} {ys : List V} (h : RepB H B (k + 2) v (.l (ys.map .v))) : ∃ p : Addr, v = .ref p ∧ H p = some (.lst ys) := by
  obtain ⟨a, xs, h1, _, h2, h3, _, h5⟩ := h
  refine ⟨a, h1, ?_⟩
  have : xs = ys := by
    refine List.ext_getElem? fun i => ?_
    rw [List.length_map] at h3
    cases e : xs[i]? with
    | none =>
      have := List.getElem?_eq_none_iff.mp e
      rw [List.getElem?_eq_none (by omega)]
    | some x =>
      have hi := (List.getElem?_eq_some_iff.mp e).1
      have hj : ys[i]? = some (ys[i]'(by omega)) := List.getElem?_eq_getElem _
      generalize ys[i]'(by omega) = y at hj
      have := h5 i x (.v y) e (by rw [List.getElem?_map, hj]; rfl)
      rw [hj, this.1]
  rw [h2, this]
theorem strs_flt (l : List Str) : ∀ x ∈ l.map V.str, flt x := fun x hx => by
  obtain ⟨z, _, rfl⟩ := List.mem_map.mp hx
  exact str_flt z
/-- words with one less, another or one more -/
def wsel (ws : List Str) (n : Nat) (m : Str) : List (List Str) := [ws.take n ++ ws.drop (n + 1), ws.take n ++ [m] ++ ws.drop (n + 1), ws.take n ++ [m] ++ ws.drop n]
theorem wsel_wgt {ws : List Str} {n : Nat} {m : Str} (hm : m.length ≤ 9) : ∀ W ∈ wsel ws n m, wgt W ≤ wgt ws + 10 := fun W hW => by
  have h1 := wgt_cut ws n
  have h2 := wgt_drop ws n
  have h3 := wgt_one m
  unfold wsel at hW
  simp only [List.mem_cons, List.not_mem_nil, or_false] at hW
  rcases hW with rfl | rfl | rfl
  · rw [wgt_app]; omega
  · rw [wgt_app, wgt_app]; omega
  · rw [wgt_app, wgt_app]; omega
section
variable {σ : L2.St} {H : Hp}
theorem el_slTo {te tn : TE} {a : Addr} {l : List Str} {n : Nat} (h : Ev te σ H (.ref a)) (ha : H a = some (.lst (l.map V.str))) (hn : Ev tn σ H (.int (n : Nat))) : EvL (tSl (rSlL K) te tNoPart (tPart tn)) σ H ((l.take n).map V.str) := by
  have := el_sl (K := K) h eo_none (eo_some hn) (SqL.of ha)
  rw [cutV_to] at this
  rw [List.map_take]
  exact this
theorem el_slFr {te tn : TE} {a : Addr} {l : List Str} {n : Nat} (h : Ev te σ H (.ref a)) (ha : H a = some (.lst (l.map V.str))) (hn : Ev tn σ H (.int (n : Nat))) : EvL (tSl (rSlL K) te (tPart tn) tNoPart) σ H ((l.drop n).map V.str) := by
  have := el_sl (K := K) h (eo_some hn) eo_none (SqL.of ha)
  rw [cutV_from] at this
  rw [List.map_drop]
  exact this
theorem ev_inc {i n : Nat} (h : σ[i]? = some (some (.int (n : Nat)))) : Ev (tOp (rI0 fun i j => .int (i + j)) (tVar i) (tC (.int 1))) σ H (.int ((n + 1 : Nat) : Int)) := ev_op (ev_var h) ev_c fun H1 e Q q => ⟨_, _, rfl, rfl, by
  have : (n : Int) + 1 = ((n + 1 : Nat) : Int) := by omega
  show Q (.int ((n : Int) + 1)) H1
  rw [this]
  exact q H1 (Ex.refl _)⟩
theorem el_catS {ta tb : TE} {p q : List Str} (h1 : EvL ta σ H (p.map V.str)) (h2 : EvL tb σ H (q.map V.str)) (hl : p.length + q.length ≤ 100000) : EvL (tOp rCat ta tb) σ H ((p ++ q).map V.str) := by
  rw [List.map_append]
  exact el_cat h1 h2 (by rw [List.length_map, List.length_map]; exact hl)
end
theorem tl_cutTo (x : Str) (k : Nat) : tl (cutS x none (some (k : Int))) = (tl x).take k := by
  show ((x.cps.toList.drop (HT.sIx x.length 0 none)).take (HT.sIx x.length x.length (some (k : Int)) - HT.sIx x.length 0 none)) = _
  rw [HT.sIx_nat, HT.sIx_none, List.drop_zero, Nat.sub_zero]
  have hl : x.length = x.cps.toList.length := by rw [len_tl]
  rcases Nat.le_total k x.length with h | h
  · rw [Nat.min_eq_left h]
  · rw [Nat.min_eq_right h, hl, List.take_length]
    exact (List.take_of_length_le (by show (tl x).length ≤ k; rw [← len_tl]; exact h)).symm
theorem tl_cutFr (x : Str) (k : Nat) : tl (cutS x (some (k : Int)) none) = (tl x).drop k := by
  show ((x.cps.toList.drop (HT.sIx x.length 0 (some (k : Int)))).take (HT.sIx x.length x.length none - HT.sIx x.length 0 (some (k : Int)))) = _
  rw [HT.sIx_nat, HT.sIx_none]
  have hl : x.length = x.cps.toList.length := by rw [len_tl]
  rcases Nat.le_total k x.length with h | h
  · rw [Nat.min_eq_left h]
    exact List.take_of_length_le (by rw [List.length_drop, hl]; exact Nat.le_refl _)
  · rw [Nat.min_eq_right h, hl, List.drop_length]
    rw [List.take_nil]
    exact (List.drop_of_length_le (by show (tl x).length ≤ k; rw [← len_tl]; exact h)).symm
section
variable {σ : L2.St} {H : Hp}
theorem ev_slS {te : TE} {tl' th : TO} {lo hi : Option Int} {z : Str} (h : Ev te σ H (.str z)) (h1 : EvO tl' σ H lo) (h2 : EvO th σ H hi) (hz : z.length ≤ 100000) : Ev (tSl rSlS te tl' th) σ H (.str (cutS z lo hi)) := fun H1 e Q q => h H1 e _ fun H2 e2 => h1 H2 (Ex.trans e e2) _ fun H3 e3 => h2 H3 (Ex.trans e (Ex.trans e2 e3)) _ fun H4 e4 => ⟨z, rfl, sz_of hz, q H4 (Ex.trans e2 (Ex.trans e3 e4))⟩
end
end
theorem okc_cutTo {x : Str} (h : OkC x) (k : Nat) : OkC (cutS x none (some (k : Int))) := fun c hc => by
  rw [tl_cutTo] at hc
  exact h c (List.mem_of_mem_take hc)
theorem okc_cutFr {x : Str} (h : OkC x) (k : Nat) : OkC (cutS x (some (k : Int)) none) := fun c hc => by
  rw [tl_cutFr] at hc
  exact h c (List.mem_of_mem_drop hc)
end Lm

namespace Lm
open PySem L2 Evl RZ TL
/-! ### what is due, as shapes -/
def rowSh (z : Str × List Str) : Sh := .t (((z.1 :: z.2).map V.str).map .v)
def outSh : OutK → Sh
  | .text n => .t [.v (.str "text"), .v (.int (n : Nat))]
  | .dup k => .t [.v (.str "rule"), .v (.int (k : Nat)), .v (.str "name")]
  | .noshow => .t [.v (.str "rule"), .v .non, .v (.str "show")]
  | .made fs wy nm => .t [.v (.str "made"), .l (fs.map rowSh), .t ([(.str wy : V), .str nm].map .v)]
theorem rep_rows {H : Hp} {k : Nat} {fl : Addr} {xs : List V} {fs : List (Str × List Str)} (h : H fl = some (.lst xs)) (hR : RowsT H xs fs) (hl : fs.length ≤ 1000) (hn : ∀ z ∈ fs, z.2.length ≤ 1000) : Rep H (k + 3) (.ref fl) (.l (fs.map rowSh)) := by
  refine ⟨fl, xs, rfl, trivial, h, by rw [List.length_map, hR.len], by rw [hR.len]; omega, fun i y s' q1 q2 => ?_⟩
  rw [List.getElem?_map] at q2
  cases e : fs[i]? with
  | none => rw [e] at q2; cases q2
  | some z =>
    rw [e] at q2
    cases (Option.some.inj q2)
    obtain ⟨u, hu, hut⟩ := hR.get e
    rw [hu] at q1
    cases q1
    exact rep_flatT trivial hut (by have := hn z (List.mem_of_getElem? e); simp; omega) (strs_flt _)
section
variable {K : PySem.W.Frag} {σ : L2.St} {H : Hp}
theorem ev_isN' {te : TE} {x : V} (h : Ev te σ H x) : Ev (tOp rIsN te (tC .non)) σ H (.bl (decide (x = .non))) := fun H1 e1 Q q => h H1 e1 _ fun H2 e2 => ⟨rfl, q H2 e2⟩
theorem ev_eqNil {te : TE} {a : Addr} {xs : List V} (h : Ev te σ H (.ref a)) (ha : H a = some (.lst xs)) (d : List PyData) (hd : ∀ H', Ex H H' → DpAll K H' xs d) (hs : PySem.SeqAt.shaped (.list d) = true) : Ev (tOp (rEqD K) te (tLst tNil)) σ H (.bl (decide (xs = []))) := fun H1 e Q k => h H1 e _ fun H2 e2 => ⟨by show 0 ≤ sizeLine; decide, fun p np => by
  have e3 := Ex.new np (o := .lst [])
  refine ⟨_, _, .lst (sq_of (Ex.trans e (Ex.trans e2 e3) _ _ ha)) (hd _ (Ex.trans e (Ex.trans e2 e3))), .lst (sq_of upd_same) .nil, hs, rfl, ?_⟩
  have hq : PyData.eqv (.list d) (.list []) = decide (xs = []) := by
    have hl := hd H (Ex.refl _)
    cases hl with
    | nil => rfl
    | cons _ _ => rfl
  rw [hq]
  exact k _ (Ex.trans e2 e3)⟩
end
section
variable {P : Program} {w : World} {K : PySem.W.Frag} {mg : Str → Option Value} {base : Heap} {f : Addr} {fd : FuncData}
def spRuleDue : Sp := fun vs H Q _ => ∃ (a b : Addr) (xs : List V) (fs : List (Str × List Str)) (s0 wy nm : Str), vs = [.ref a, .ref b] ∧ H a = some (.lst xs) ∧ RowsT H xs fs ∧ fs.length ≤ 3 ∧ (∀ z ∈ fs, z.2.length ≤ 1000) ∧ H b = some (.lst [.str s0, .str wy, .str nm]) ∧ ∀ v H', Ex H H' → Rep H' 4 v (outSh (ruleDue fs wy nm)) → Q v H'
abbrev s_rule_due : Stmt := top 41
theorem sc_rule_due : FnScope ["_law_rows", "_law_words", "_law_names", "_law_k", "_law_called", "_law_row"] ["_law_rows", "_law_words"] (defScope s_rule_due) := ⟨rfl, rfl, rfl, by decide +kernel, rfl, by decide +kernel, by decide +kernel⟩
theorem ok_rule_due (F : L2.Fun K "_law_rule_due" "_law_rule_due" s_rule_due f fd) (T : Blt mg) : FnOk P w K mg base CX0 1 f fd ["_law_rows", "_law_words"] spRuleDue := by
  refine F.ok sc_rule_due (fun vs H Q E h => ?_) (fun cdv A outer s H vs Q E hr h => ?_)
  · obtain ⟨a, b, xs, fs, s0, wy, nm, rfl, _⟩ := h
    rfl
  · obtain ⟨a, b, xs, fs, s0, wy, nm, rfl, ha, hR, l3, hn, hb, k⟩ := h
    refine ⟨_, (pss_cons (ps_setLc (i := 2) (own := [("_law_row", 5)]) (g := gName 5) (tt := tYes) (te := (tOp (rIxT K) (tVar 5) (tC (.int 0)))) rfl sc_rule_due.nd rfl rfl (sw_true rfl rfl rfl (by decide +kernel)) (pi_list (pv 0)) (blkOk_by (own := [("_law_row", 5)]) (by kernel_rfl)) (fun _ _ _ _ _ => (pg_name (i := 5) sc_rule_due.nd rfl (by first | exact Or.inl rfl | exact Or.inr rfl))) (fun _ _ _ _ _ => pts_nil) (fun _ _ _ _ _ => by exact (pe_ix ix_tup (pv 5) pe_int (fun _ _ => rfl))))
        (pss_cons (ps_for PassesOwn.never rfl (pi_enumA rfl T.b_enumerate (pa_cons (pv 2) pa_nil)) (pg_tup rfl (pgs_cons (pg_name (i := 3) sc_rule_due.nd rfl (by first | exact Or.inl rfl | exact Or.inr rfl)) (pgs_cons (pg_name (i := 4) sc_rule_due.nd rfl (by first | exact Or.inl rfl | exact Or.inr rfl)) pgs_nil))) (pss_one (ps_if (pt_cmpR op_in_seq (pv 4) (pe_slice sl_list (pv 2) po_none (po_some (pv 3))) (by rfl)) (pss_one (ps_ret (pe_tup (pa_cons pe_str (pa_cons (pv 3) (pa_cons pe_str pa_nil)))))) pss_nil)))
        (pss_one (ps_ret (pe_ifExp (pt_cmpR op_in_seq (pe_ix ix_list (pv 1) pe_int (fun _ _ => rfl)) (pv 2) (by rfl)) (pe_tup (pa_cons pe_str (pa_cons (pv 0) (pa_cons (pe_tup (pa_cons (pe_ix ix_list (pv 1) pe_int (fun _ _ => rfl)) (pa_cons (pe_ix ix_list (pv 1) pe_int (fun _ _ => rfl)) pa_nil))) pa_nil)))) (pe_tup (pa_cons pe_str (pa_cons pe_non (pa_cons pe_str pa_nil))))))))), ?_⟩
    obtain ⟨ts, hxs, lts, hts⟩ := id hR
    have hzip : ts.map V.ref = (ts.zip fs).map fun z => V.ref z.1 := by
      have : (ts.zip fs).map (fun z => V.ref z.1) = ((ts.zip fs).map fun z => z.1).map V.ref := by rw [List.map_map]; rfl
      rw [this, List.map_fst_zip (by omega)]
    have hln : (ts.zip fs).map (fun z => V.str z.2.1) = (nmsOf fs).map V.str := by
      have : (ts.zip fs).map (fun z => V.str z.2.1) = ((ts.zip fs).map fun z => z.2).map (V.str ∘ fun z => z.1) := by rw [List.map_map]; rfl
      rw [this, List.map_snd_zip (by omega)]
      unfold nmsOf
      rw [List.map_map]
    have mp := el_mapL (K := K) (σ := [some (.ref a), some (.ref b), none, none, none, none]) (H := H) (te := (tOp (rIxT K) (tVar 5) (tC (.int 0)))) (tl := tVar 0) (l := ts.zip fs) (f := fun z => V.ref z.1) (g := fun z => V.str z.2.1) (j := 5) (ev_var rfl) (by rw [← hzip, ← hxs]; exact ha) (by rw [List.length_zip]; omega) fun z hz H2 e2 => by
      obtain ⟨n, hz'⟩ := List.mem_iff_getElem?.mp hz
      obtain ⟨g1, g2⟩ := List.getElem?_zip_eq_some.mp hz'
      exact ev_op (ev_var rfl) ev_c (rv_ixT (SqT.of (e2 _ _ (hts n _ _ g2 g1))) (atI_n1 (n := 0) rfl))
    rw [hln] at mp
    refine q_asgL mp fun D H1 nD e1 hD => ?_
    dsimp only [List.set]
    have lm : ((nmsOf fs).map V.str).length = fs.length := by unfold nmsOf; rw [List.length_map, List.length_map]
    refine ⟨_, rfl, D, _, rfl, .inl ⟨SqL.of hD, for_it walk_enum (fun i σ' H' => ∃ u3 u4 : Option V, σ' = [some (.ref a), some (.ref b), some (.ref D), u3, u4, none] ∧ Ex H1 H' ∧ dupAt (nmsOf fs) = dupGo ((nmsOf fs).take i) i ((nmsOf fs).drop i)) ⟨_, _, rfl, Ex.refl _, rfl⟩ (fun i σ' H' _ ⟨_, _, _, e, _⟩ => SqL.of (e _ _ hD)) ?_ ?_⟩⟩
    · rintro i v σ' H3 H4 hi ⟨u3, u4, rfl, e3, hpre⟩ ⟨t, x1, x2, rfl, nt, rfl, hx1, hx2⟩
      cases (Option.some.inj hx1)
      have hx2 : ((nmsOf fs).map V.str)[i]? = some x2 := hx2
      obtain ⟨x, hx, rfl⟩ := map_inv1 hx2
      refine ⟨t, _, rfl, SqT.of upd_same, rfl, _, _, rfl, _, _, rfl, rfl, ?_⟩
      dsimp only [List.set]
      have et := Ex.new nt (o := .tup [.int (i : Nat), .str x])
      have e04 := Ex.trans e3 et
      generalize upd H3 t (.tup [.int (i : Nat), .str x]) = H4 at e04
      rw [dupGo_at hx] at hpre
      have hD4 := e04 _ _ hD
      have sT := el_slTo (K := K) (σ := [some (.ref a), some (.ref b), some (.ref D), some (.int (i : Nat)), some (.str x), none]) (H := H4) (te := tVar 2) (tn := tVar 3) (n := i) (ev_var rfl) hD4 (ev_var rfl)
      have tin : EvT (tTest (tOp (rIn K false) (tVar 4) (tSl (rSlL K) (tVar 2) tNoPart (tPart (tVar 3))))) [some (.ref a), some (.ref b), some (.ref D), some (.int (i : Nat)), some (.str x), none] H4 (decide (x ∈ (nmsOf fs).take i)) := et_test fun H5 e5 Q q => ⟨_, rfl, sT H5 e5 _ fun p H6 np e6 hp => ⟨p, _, rfl, .inl (SqL.of hp), rfl, strs_flat1 _, by
        show Q (.bl (inV (.str x) (((nmsOf fs).take i).map V.str))) H6
        rw [strs_in1]
        exact q H6 e6⟩⟩
      refine s_when tin (fun hb H5 e5 => ?_) (fun hb H5 e5 => ?_)
      · have hm := of_decide_eq_true hb
        rw [if_pos hm] at hpre
        have ho : ruleDue fs wy nm = .dup i := by unfold ruleDue; rw [hpre]
        refine s_retR (d := 4) (D := { nx := fun _ H' => Q .non H', rt := Q }) (er_tup (er_cons (es_s ev_c).r (er_cons (es_i (ev_var rfl)).r (er_cons (es_s ev_c).r er_nil))) (by show 3 ≤ 40000; decide)) fun v H6 e6 r => k v H6 (Ex.trans e1 (Ex.trans e04 (Ex.trans e5 e6))) ?_
        rw [ho]
        exact r
      · rw [if_neg (of_decide_eq_false hb)] at hpre
        exact ⟨_, _, rfl, Ex.trans e04 e5, hpre⟩
    · rintro σ' H3 ⟨u3, u4, rfl, e3, hpre⟩
      rw [lm] at hpre
      have hnl : (nmsOf fs).length = fs.length := by unfold nmsOf; rw [List.length_map]
      rw [List.drop_of_length_le (by omega)] at hpre
      have hno : dupAt (nmsOf fs) = none := hpre
      have e03 := Ex.trans e1 e3
      have hb3 := e03 _ _ hb
      have ix : ∀ {H2 : Hp} (i : Nat) (x : V), ([.str s0, .str wy, .str nm] : List V)[i]? = some x → Ex H3 H2 → Ev (tOp (rIxL K) (tVar 1) (tC (.int (i : Nat)))) [some (.ref a), some (.ref b), some (.ref D), u3, u4, none] H2 x := fun i x hx e => ev_op (ev_var rfl) ev_c (rv_ixL (SqL.of (e _ _ hb3)) (atI_nat hx))
      have tin : EvT (tTest (tOp (rIn K false) (tOp (rIxL K) (tVar 1) (tC (.int 2))) (tVar 2))) [some (.ref a), some (.ref b), some (.ref D), u3, u4, none] H3 (decide (nm ∈ nmsOf fs)) := et_test fun H5 e5 Q q => ix 2 (.str nm) rfl e5 H5 (Ex.refl _) _ fun H6 e6 => ⟨_, rfl, D, _, rfl, .inl (SqL.of (Ex.trans e3 (Ex.trans e5 e6) _ _ hD)), rfl, strs_flat1 _, by
        show Q (.bl (inV (.str nm) ((nmsOf fs).map V.str))) H6
        rw [strs_in1]
        exact q H6 e6⟩
      refine r_if tin (fun hb H5 e5 => ?_) (fun hb H5 e5 => ?_)
      · have ho : ruleDue fs wy nm = .made fs wy nm := by unfold ruleDue; rw [hno]; exact if_pos (of_decide_eq_true hb)
        refine s_retR (d := 4) (D := { nx := fun _ H' => Q .non H', rt := Q }) (er_tup (er_cons (es_s ev_c).r (er_cons (er_var rfl (rep_rows (k := 0) (Ex.trans e03 e5 _ _ ha) (hR.same (Ex.trans e03 e5)) (by omega) hn)) (er_cons (er_tup (er_cons (es_s (ix 1 (.str wy) rfl e5)).r (er_cons (es_s (ix 2 (.str nm) rfl e5)).r er_nil)) (by show 2 ≤ 40000; decide)) er_nil))) (by show 3 ≤ 40000; decide)) fun v H6 e6 r => k v H6 (Ex.trans e03 (Ex.trans e5 e6)) ?_
        rw [ho]
        exact r
      · have ho : ruleDue fs wy nm = .noshow := by unfold ruleDue; rw [hno]; exact if_neg (of_decide_eq_false hb)
        refine s_retR (d := 4) (D := { nx := fun _ H' => Q .non H', rt := Q }) (er_tup (er_cons (es_s ev_c).r (er_cons (es_n ev_c).r (er_cons (es_s ev_c).r er_nil))) (by show 3 ≤ 40000; decide)) fun v H6 e6 r => k v H6 (Ex.trans e03 (Ex.trans e5 e6)) ?_
        rw [ho]
        exact r
theorem shapedL_rows {fs : List (Str × List Str)} (h : ∀ z ∈ fs, FldOk z.1 z.2) : PySem.SeqAt.shaped (.list (fs.map dRow)) = true := by
  show (PyData.canLayAll0 (fs.map dRow) && decide (PyData.depthAll (fs.map dRow) + 1 ≤ 64)) = true
  rw [lay_rows fs h, decide_eq_true (by have := depth_rows fs; omega)]
  rfl
def spDue24 : Sp := fun vs H Q _ => ∃ x : Str, vs = [.str x] ∧ TxOk x ∧ OkC x ∧ ∀ v H', Ex H H' → Rep H' 4 v (outSh (outT x)) → Q v H'
abbrev s_due : Stmt := top 40
theorem sc_due : FnScope ["_law_text_here", "_law_lines", "_law_rows", "_law_k", "_law_line_here", "_law_row"] ["_law_text_here"] (defScope s_due) := ⟨rfl, rfl, rfl, by decide +kernel, rfl, by decide +kernel, by decide +kernel⟩
theorem ok_due {fF fS fR : Addr} {dF dS dR : FuncData} (F : L2.Fun K "_law_due" "_law_due" s_due f fd) (T : Blt mg) (D_field_of : DefOk P w K mg base 2 "_law_field_of" fF dF ["_law_line_here"] spLField) (D_is_show : DefOk P w K mg base 2 "_law_is_show" fS dS ["_law_line_here"] spLShow)
    (D_rule_due : DefOk P w K mg base 1 "_law_rule_due" fR dR ["_law_rows", "_law_words"] spRuleDue) : FnOk P w K mg base CX0 3 f fd ["_law_text_here"] spDue24 := by
  refine F.ok sc_due (fun vs H Q E h => ?_) (fun cdv A outer s H vs Q E hr h => ?_)
  · obtain ⟨x, rfl, _⟩ := h
    rfl
  · obtain ⟨x, rfl, hx, hox, k⟩ := h
    refine ⟨_, (pss_cons (ps_par (i := 1) (j := 2) (by rfl) sc_due.nd rfl rfl (by decide) rfl rfl (pa_cons (pe_split (pv 0) pe_str) (pa_cons (pe_lst pa_nil) pa_nil)) (by rfl))
        (pss_cons (ps_for PassesOwn.never rfl (pi_enumA rfl T.b_enumerate (pa_cons (pv 1) pa_nil)) (pg_tup rfl (pgs_cons (pg_name (i := 3) sc_due.nd rfl (by first | exact Or.inl rfl | exact Or.inr rfl)) (pgs_cons (pg_name (i := 4) sc_due.nd rfl (by first | exact Or.inl rfl | exact Or.inr rfl)) pgs_nil))) (pss_cons (ps_set (i := 5) sc_due.nd rfl (by first | exact Or.inl rfl | exact Or.inr rfl) (pe_d D_field_of (hr.mono (by decide)) (pa_cons (pv 4) pa_nil)))
        (pss_cons (ps_if (PW.pt (pw_or (pt_cmpR op_eq (pv 3) (pe_op op_sub (pe_callB call_len_seq (by rfl) T.b_len PySem.boot_len (pa_cons (pv 1) pa_nil)) pe_int) (nomark _)) (pw_or1 (PW.pt (pw_and (pt_cmpR op_isN1 (pv 5) pe_non (nomark _)) (pw_and1 (PW.pt (pw_or (pt_cmpR (op_eqD hr.units) (pv 2) (pe_lst pa_nil) (nomark _)) (pw_or1 (pt_not (pt_val (pe_d D_is_show (hr.mono (by decide)) (pa_cons (pv 4) pa_nil))))))))))))) (pss_one (ps_ret (pe_tup (pa_cons pe_str (pa_cons (pe_op op_add (pv 3) pe_int) pa_nil))))) pss_nil)
        (pss_cons (ps_if (PW.pt (pw_and (pt_cmpR op_notN1 (pv 5) pe_non (nomark _)) (pw_and1 (pt_cmpR op_eq (pe_callB call_len_seq (by rfl) T.b_len PySem.boot_len (pa_cons (pv 2) pa_nil)) pe_int (nomark _))))) (pss_one (ps_ret (pe_tup (pa_cons pe_str (pa_cons (pe_op op_add (pv 3) pe_int) pa_nil))))) pss_nil)
        (pss_cons (ps_if (pt_cmpR op_isN1 (pv 5) pe_non (nomark _)) (pss_one (ps_ret (pe_ifExp (pt_cmpR (op_eqD hr.units) (pe_slice sl_list (pv 1) (po_some (pe_op op_add (pv 3) pe_int)) po_none) (pe_lst (pa_cons pe_str pa_nil)) (nomark _)) (pe_d D_rule_due (hr.mono (by decide)) (pa_cons (pv 2) (pa_cons (pe_split (pv 4) pe_str) pa_nil))) (pe_tup (pa_cons pe_str (pa_cons (pe_op op_add (pv 3) pe_int) pa_nil)))))) pss_nil)
        (pss_one (ps_expr (pe_bm PySem.F.plainAttrs_list PySem.F.slot_list_append PySem.F.type_list_append mt_append (pv 2) (pa_cons (pv 5) pa_nil)))))))))
        (pss_one (ps_ret pe_non)))), ?_⟩
    have hxl := hx.len
    refine ⟨_, rfl, ⟨_, rfl⟩, x, "\n", rfl, rfl, rfl, sz_of (by omega), fun lp nlp => ⟨by show 0 ≤ sizeLine; decide, fun fl nfl => ⟨_, _, rfl, ?_⟩⟩⟩
    have hsp : Txt.split x "\n" = linesOf x := rfl
    rw [hsp] at nfl ⊢
    have s0 := Ex.new nlp (o := .lst ((linesOf x).map V.str))
    have e02 := Ex.trans s0 (Ex.new nfl (o := .lst []))
    have nfl0 : H fl = none := fresh_back s0 nfl
    have hfl2 : (upd (upd H lp (.lst ((linesOf x).map V.str))) fl (.lst [])) fl = some (.lst []) := upd_same
    have hlp2 : (upd (upd H lp (.lst ((linesOf x).map V.str))) fl (.lst [])) lp = some (.lst ((linesOf x).map V.str)) := by
      rw [upd_ne (fun z => by subst z; rw [upd_same] at nfl; cases nfl)]
      exact upd_same
    have nlf : lp ≠ fl := fun z => by subst z; rw [upd_same] at nfl; cases nfl
    generalize upd (upd H lp (.lst ((linesOf x).map V.str))) fl (.lst []) = H2 at e02 hfl2 hlp2
    have hc := hx.count
    have hll : (linesOf x).length = (headL x).length + 1 := by rw [lines_eq, List.length_append]; rfl
    have lm : ((linesOf x).map V.str).length = (headL x).length + 1 := by rw [List.length_map, hll]
    refine ⟨_, rfl, lp, _, rfl, .inl ⟨SqL.of hlp2, for_it walk_enum (fun i σ' H' => ∃ (u3 u4 u5 : Option V) (xs : List V) (fs : List (Str × List Str)), σ' = [some (.str x), some (.ref lp), some (.ref fl), u3, u4, u5] ∧ i ≤ (headL x).length ∧ Ex H H' ∧ H' lp = some (.lst ((linesOf x).map V.str)) ∧ H' fl = some (.lst xs) ∧ RowsT H' xs fs ∧ fs.length ≤ 3 ∧ (∀ z ∈ fs, FldOk z.1 z.2) ∧ outT x = outK i fs ((linesOf x).drop i))
      ⟨_, _, _, [], [], rfl, Nat.zero_le _, e02, hlp2, hfl2, ⟨[], rfl, rfl, fun j z u a => by simp at a⟩, by decide, (fun z hz => nomatch hz), rfl⟩ (fun i σ' H' _ ⟨_, _, _, _, _, _, _, _, h, _⟩ => SqL.of h) ?_ ?_⟩⟩
    · rintro i v σ' H3 H4 hi ⟨u3, u4, u5, xs, fs, rfl, hile, e3, hlp3, hxs, hR, l3, hok, hA⟩ ⟨t, x1, x2, rfl, nt, rfl, hx1, hx2⟩
      cases (Option.some.inj hx1)
      have hx2 : ((linesOf x).map V.str)[i]? = some x2 := hx2
      obtain ⟨l, hl, rfl⟩ := map_inv1 hx2
      have hmem := List.mem_of_getElem? hl
      have hlen : l.length ≤ 900 := hx.ln l hmem
      have hol : OkC l := okc_lines hox l hmem
      refine ⟨t, _, rfl, SqT.of upd_same, rfl, _, _, rfl, _, _, rfl, rfl, ?_⟩
      dsimp only [List.set]
      have et := Ex.new nt (o := .tup [.int (i : Nat), .str l])
      have hlp4 := et _ _ hlp3
      have hxs4 := et _ _ hxs
      have hR4 := hR.same et
      have e04 := Ex.trans e3 et
      generalize upd H3 t (.tup [.int (i : Nat), .str l]) = H4 at hlp4 hxs4 hR4 e04
      have lxs := hR4.len
      have hret : ∀ (n : Nat), outT x = .text n → ∀ {σ : L2.St} {H5 : Hp} {te : TE}, Ex H4 H5 → Ev te σ H5 (.int (n : Nat)) → tRet (tTup (tCons (tC (.str "text")) (tCons te tNil))) { nx := fun _ H' => Q .non H', rt := Q } σ H5 := fun n ho σ H5 te e5 h => s_retR (d := 4) (er_tup (er_cons (es_s ev_c).r (er_cons (es_i h).r er_nil)) (by show 2 ≤ 40000; decide)) fun v H6 e6 r => k v H6 (Ex.trans e04 (Ex.trans e5 e6)) (by rw [ho]; exact r)
      have hcase : (∃ l2 r, i < (headL x).length ∧ (linesOf x).drop i = l :: l2 :: r ∧ (linesOf x).drop (i + 1) = l2 :: r) ∨ (i = (headL x).length ∧ (linesOf x).drop i = [l]) := by
        rcases Nat.lt_or_ge i (headL x).length with q | q
        · have hh : (headL x)[i]? = some l := by rw [lines_eq, List.getElem?_append_left q] at hl; exact hl
          obtain ⟨l2, r, h1, h2⟩ := lines_head hh
          exact .inl ⟨l2, r, q, h1, h2⟩
        · have hi2 : i = (headL x).length := by omega
          refine .inr ⟨hi2, ?_⟩
          rw [hi2, lines_last]
          rw [hi2, lines_eq, List.getElem?_append_right (Nat.le_refl _), Nat.sub_self] at hl
          have : lastL x = l := Option.some.inj hl
          rw [this]
      have etk : ∀ {σ : L2.St} {H5 : Hp}, σ[1]? = some (some (.ref lp)) → σ[3]? = some (some (.int (i : Nat))) → Ex H4 H5 → EvT (tTest (tOp rEq (tVar 3) (tOp (rI0 fun i j => .int (i - j)) (tCB (rLenS K) (tCons (tVar 1) tNil)) (tC (.int 1))))) σ H5 (decide (i = (headL x).length)) := fun h1 h3 e5 => by
        refine et_is (et_test (ev_op (ev_var (v := .int (i : Nat)) h3) (ev_op (z := .int ((headL x).length : Nat)) (ev_lenL (K := K) (ev_var h1) (e5 _ _ hlp4)) ev_c fun H1 e Q q => ⟨_, _, rfl, rfl, ?_⟩) (rv_eq rfl))) ?_
        · rw [lm]
          have : (((headL x).length + 1 : Nat) : Int) - 1 = ((headL x).length : Nat) := by omega
          show Q (.int ((((headL x).length + 1 : Nat) : Int) - 1)) H1
          rw [this]
          exact q H1 (Ex.refl _)
        · have : (V.int (i : Nat) = V.int ((headL x).length : Nat)) = (i = (headL x).length) := propext ⟨fun z => Int.ofNat.inj (V.int.inj z), fun z => by rw [z]⟩
          simp only [this]
      have elen : ∀ {σ : L2.St} {H' : Hp}, σ[2]? = some (some (.ref fl)) → Ex H4 H' → EvT (tTest (tOp rEq (tCB (rLenS K) (tCons (tVar 2) tNil)) (tC (.int 3)))) σ H' (decide (fs.length = 3)) := fun h2 e => et_is (et_test (ev_op (ev_lenL (K := K) (ev_var h2) (e _ _ hxs4)) ev_c (rv_eq rfl))) (by
        rw [lxs]
        have : (V.int (fs.length : Nat) = V.int 3) = (fs.length = 3) := propext ⟨fun z => by have := V.int.inj z; omega, fun z => by rw [z]; rfl⟩
        simp only [this])
      have enil : ∀ {σ : L2.St} {H' : Hp}, σ[2]? = some (some (.ref fl)) → Ex H4 H' → EvT (tTest (tOp (rEqD K) (tVar 2) (tLst tNil))) σ H' (decide (fs = [])) := fun h2 e => by
        obtain ⟨ts, hxs', lts, hts⟩ := id hR4
        refine et_is (et_test (ev_eqNil (ev_var h2) (e _ _ hxs4) (fs.map dRow) (fun H' e' => by
          rw [hxs']
          exact dpAll_rows fs ts lts fun j z u a b => Ex.trans e e' _ _ (hts j z u a b)) (shapedL_rows hok))) ?_
        have : (xs = []) = (fs = []) := propext ⟨fun z => by rw [z] at lxs; exact List.length_eq_zero_iff.mp lxs.symm, fun z => by rw [z] at lxs; exact List.length_eq_zero_iff.mp lxs⟩
        simp only [this]
      have k1 : ∀ {σ : L2.St} {H5 : Hp} (m : Nat), σ[3]? = some (some (.int (i : Nat))) → Ev (tOp (rI0 fun i j => .int (i + j)) (tVar 3) (tC (.int (m : Nat)))) σ H5 (.int ((i + m : Nat) : Int)) := fun m h => ev_op (ev_var h) ev_c fun H1 e Q q => ⟨_, _, rfl, rfl, by
        have : (i : Int) + (m : Nat) = ((i + m : Nat) : Int) := by omega
        show Q (.int ((i : Int) + (m : Nat))) H1
        rw [this]
        exact q H1 (Ex.refl _)⟩
      refine ⟨_, rfl, l, rfl, hlen, hol, fun z hz p H5 np e5 hp => ?_, fun hno H5 e5 => ?_⟩
      · dsimp only [gName, List.set]
        refine q_when (b := decide (i = (headL x).length)) (et_is (et_or (etk rfl rfl e5) fun _ => et_and (b := true) (et_is (et_test (ev_isN' (x := .ref p) (ev_var rfl))) (decide_eq_false fun z => nomatch z)) fun h => nomatch h) (by simp)) (fun hb H6 e6 => ?_) (fun hb H6 e6 => ?_)
        · have hi2 := of_decide_eq_true hb
          rcases hcase with ⟨_, _, q, _⟩ | ⟨_, hd⟩
          · omega
          · rw [hd] at hA
            exact hret (i + 1) hA (Ex.trans e5 e6) (k1 1 rfl)
        · have hi2 := of_decide_eq_false hb
          rcases hcase with ⟨l2, r, q, hd, hd2⟩ | ⟨hd, _⟩
          · rw [hd] at hA
            have hA2 : outT x = if fs.length = 3 then .text (i + 1) else outK (i + 1) (fs ++ [z]) (l2 :: r) := by
              rw [hA]
              show (match fieldOf l with | some z => _ | none => _) = _
              rw [hz]
            have e46 := Ex.trans e5 e6
            refine q_when (b := decide (fs.length = 3)) (et_is (et_and (et_is (et_test (ev_notN (x := .ref p) (ev_var rfl))) (b := true) (by simp)) fun _ => elen rfl e46) (by simp)) (fun hb H7 e7 => ?_) (fun hb H7 e7 => ?_)
            · rw [if_pos (of_decide_eq_true hb)] at hA2
              exact hret (i + 1) hA2 (Ex.trans e46 e7) (k1 1 rfl)
            · have h3 := of_decide_eq_false hb
              rw [if_neg h3] at hA2
              refine q_when (b := false) (et_is (et_test (ev_isN' (x := .ref p) (ev_var rfl))) (decide_eq_false fun z => nomatch z)) (fun z => nomatch z) fun _ H8 e8 => ?_
              have e48 := Ex.trans e46 (Ex.trans e7 e8)
              have hxs8 := e48 _ _ hxs4
              refine s_app hxs8 (ev_var rfl) (ev_var rfl) (by omega) fun H9 e9 => ?_
              have e49 := Ex.trans e48 e9
              refine ⟨_, _, _, xs ++ [.ref p], fs ++ [z], rfl, q, Ex.mut (Ex.trans e04 e49) nfl0, ?_, upd_same, ?_, by rw [List.length_append]; have h1 : [z].length = 1 := rfl; omega, ?_, ?_⟩
              · rw [upd_ne nlf]
                exact e49 _ _ hlp4
              · exact RowsT.kp (RowsT.snoc (z := z) (hR4.same e49) (Ex.trans e6 (Ex.trans (Ex.trans e7 e8) e9) _ _ hp)) (Kp.upd _ _ _) (e9 _ _ hxs8)
              · intro y hy
                rcases List.mem_append.mp hy with hy | hy
                · exact hok y hy
                · rw [List.mem_singleton.mp hy]; exact (fieldOf_some hz).1
              · rw [hA2, hd2]
          · exact absurd hd hi2
      · dsimp only [gName, List.set]
        have evs : ∀ {σ : L2.St} {H6 : Hp}, σ[4]? = some (some (.str l)) → Ev (tCall spLShow [] E0 (tCons (tVar 4) tNil)) σ H6 (.bl (showOf l).isSome) := fun h4 H7 e7 Q q => ⟨_, h4, l, rfl, hlen, fun H8 e8 => q H8 e8⟩
        refine q_when (b := decide (i = (headL x).length) || (decide (fs = []) || !(showOf l).isSome)) (et_is (et_or (etk rfl rfl e5) fun _ => et_and (et_is (et_test (ev_isN' (x := .non) (ev_var rfl))) (decide_eq_true rfl)) fun _ => et_or (enil rfl e5) fun _ => et_not (et_B (evs rfl))) (by simp)) (fun hb H6 e6 => ?_) (fun hb H6 e6 => ?_)
        · refine hret (i + 1) ?_ (Ex.trans e5 e6) (k1 1 rfl)
          rcases hcase with ⟨l2, r, q, hd, hd2⟩ | ⟨hd0, hd⟩
          · rw [hA, hd]
            show (match fieldOf l with | some z => _ | none => _) = _
            rw [hno]
            show (match showOf l with | some y => _ | none => _) = _
            rw [decide_eq_false (by omega : ¬ i = (headL x).length), Bool.false_or] at hb
            cases hs : showOf l with
            | none => rfl
            | some y =>
              rw [hs] at hb
              show (if fs = [] then _ else _) = _
              rw [if_pos (of_decide_eq_true (by simpa using hb))]
          · rw [hA, hd]
            rfl
        · rw [Bool.or_eq_false_iff, Bool.or_eq_false_iff] at hb
          obtain ⟨hb1, hb2, hb3⟩ := hb
          have hi2 := of_decide_eq_false hb1
          have hne := of_decide_eq_false hb2
          have hsome : (showOf l).isSome = true := by simpa using hb3
          obtain ⟨y, hy⟩ := Option.isSome_iff_exists.mp hsome
          rcases hcase with ⟨l2, r, q, hd, hd2⟩ | ⟨hd, _⟩
          · have hA2 : outT x = if l2 :: r = [("" : Str)] then ruleDue fs y.1 y.2 else .text (i + 2) := by
              rw [hA, hd]
              show (match fieldOf l with | some z => _ | none => _) = _
              rw [hno]
              show (match showOf l with | some y => _ | none => _) = _
              rw [hy]
              show (if fs = [] then _ else _) = _
              rw [if_neg hne]
            have e46 := Ex.trans e5 e6
            refine q_when (b := false) (et_and (b := true) (a := false) (et_is (et_test (ev_notN (x := .non) (ev_var rfl))) (by simp)) fun h => nomatch h) (fun z => nomatch z) fun _ H7 e7 => ?_
            refine q_when (b := true) (et_is (et_test (ev_isN' (x := .non) (ev_var rfl))) (decide_eq_true rfl)) (fun _ H8 e8 => ?_) (fun z => nomatch z)
            have e48 := Ex.trans e46 (Ex.trans e7 e8)
            have sF := el_slFr (K := K) (σ := [some (.str x), some (.ref lp), some (.ref fl), some (.int (i : Nat)), some (.str l), some .non]) (H := H8) (te := tVar 1) (n := i + 1) (ev_var rfl) (e48 _ _ hlp4) (k1 1 rfl)
            rw [hd2] at sF
            have tq : EvT (tTest (tOp (rEqD K) (tSl (rSlL K) (tVar 1) (tPart (tOp (rI0 fun i j => .int (i + j)) (tVar 3) (tC (.int 1)))) tNoPart) (tLst (tCons (tC (.str "")) tNil)))) [some (.str x), some (.ref lp), some (.ref fl), some (.int (i : Nat)), some (.str l), some .non] H8 (decide (l2 :: r = [("" : Str)])) := et_test (ev_eqSL (vs := [("" : Str)]) sF (el_lst (ea_cons ev_c ea_nil) (by show 1 ≤ 100000; decide)) (fun x' hx' => okc_lines hox x' (List.mem_of_mem_drop (by rw [hd2]; exact hx'))) (fun x' hx' => by rw [List.mem_singleton.mp hx']; exact okc_dec (by decide +kernel)))
            refine r_if tq (fun hb H9 e9 => ?_) (fun hb H9 e9 => ?_)
            · rw [if_pos (of_decide_eq_true hb)] at hA2
              have hw := (showOf_some hy).2.2
              have e49 := Ex.trans e48 e9
              refine ⟨_, rfl, _, rfl, ⟨_, rfl⟩, l, " ", rfl, rfl, rfl, sz_of (by omega), fun wp nwp => ?_⟩
              have hsw : Txt.split l " " = wordsS y.1 y.2 := hw
              rw [hsw]
              have ew := Ex.new nwp (o := .lst ((wordsS y.1 y.2).map V.str))
              have hwp : (upd H9 wp (.lst ((wordsS y.1 y.2).map V.str))) wp = some (.lst ((wordsS y.1 y.2).map V.str)) := upd_same
              generalize upd H9 wp (.lst ((wordsS y.1 y.2).map V.str)) = H10 at ew hwp
              have e410 := Ex.trans e49 ew
              refine ⟨fl, wp, xs, fs, "show", y.1, y.2, rfl, e410 _ _ hxs4, hR4.same e410, l3, (fun z hz => by rw [(hok z hz).len]; decide), hwp, fun v H11 e11 r => k v H11 (Ex.trans e04 (Ex.trans e410 e11)) (by rw [hA2]; exact r)⟩
            · rw [if_neg (of_decide_eq_false hb)] at hA2
              exact hret (i + 2) hA2 (Ex.trans e48 e9) (k1 2 rfl)
          · exact absurd hd hi2
    · rintro σ' H3 ⟨u3, u4, u5, xs, fs, rfl, hile, _⟩
      rw [lm] at hile
      omega
end
end Lm

namespace Lm
open PySem L2 Evl RZ TL
def strange : List Str := ["no", "last", "row", "lower", "show", "field", "", "A", "x1", "q", "abcdefghi", "abcdefgh"]
def signs7 : List Str := [" ", "\n", "a", "_", "0", "~", "A"]
theorem strange_len : ∀ m ∈ strange, m.length ≤ 9 := by decide +kernel
theorem strange_ok : ∀ m ∈ strange, (tl m).all (fun c => decide (c < 0x110000)) = true := by decide +kernel
theorem signs7_len : ∀ m ∈ signs7, m.length ≤ 1 := by decide +kernel
theorem signs7_ok : ∀ m ∈ signs7, (tl m).all (fun c => decide (c < 0x110000)) = true := by decide +kernel
theorem okc_nl : OkC "\n" := okc_dec (by decide +kernel)
theorem okc_sp : OkC " " := okc_dec (by decide +kernel)
theorem wsel_okc {ws : List Str} {n : Nat} {m : Str} (h : ∀ p ∈ ws, OkC p) (hm : OkC m) : ∀ W ∈ wsel ws n m, ∀ p ∈ W, OkC p := fun W hW p hp => by
  unfold wsel at hW
  simp only [List.mem_cons, List.not_mem_nil, or_false] at hW
  have ht : ∀ p ∈ ws.take n, OkC p := fun p hp => h p (List.mem_of_mem_take hp)
  have hd : ∀ j, ∀ p ∈ ws.drop j, OkC p := fun j p hp => h p (List.mem_of_mem_drop hp)
  rcases hW with rfl | rfl | rfl
  · exact (List.mem_append.mp hp).elim (ht p) (hd _ p)
  · rcases List.mem_append.mp hp with hp | hp
    · exact (List.mem_append.mp hp).elim (ht p) fun hp => by rw [List.mem_singleton.mp hp]; exact hm
    · exact hd _ p hp
  · rcases List.mem_append.mp hp with hp | hp
    · exact (List.mem_append.mp hp).elim (ht p) fun hp => by rw [List.mem_singleton.mp hp]; exact hm
    · exact hd _ p hp
section
variable {P : Program} {w : World} {K : PySem.W.Frag} {mg : Str → Option Value} {base : Heap} {f : Addr} {fd : FuncData}
theorem el_rev {σ : L2.St} {H : Hp} {ta : TE} {p : Addr} {xs : List V} (ha : Ev ta σ H (.ref p)) (hp : H p = some (.lst xs)) : EvL (tRevL K ta) σ H xs.reverse := fun H1 e Q q => ha H1 e _ fun H2 e2 => ⟨p, xs, rfl, sq_of (Ex.trans e e2 _ _ hp), fun r nr => q r _ (fresh_back e2 nr) (e2.trans (Ex.new nr)) upd_same⟩
def spSpoil24 : Sp := fun vs H Q _ => ∃ (st c : Addr) (x : Str) (M : Nat), vs = [.ref st, .str x] ∧ StAt H st c ∧ SgB M (tl x) ∧ M ≤ 400 ∧ x.length ≤ 5000 ∧ OkC x ∧ ∀ (y : Str) H', SgB (2 * M + 11) (tl y) → y.length ≤ x.length + M + 12 → OkC y → StAt H' st c → Kp st H H' → Q (.str y) H'
abbrev s_spoilt_text : Stmt := top 42
theorem sc_spoilt_text : FnScope ["_law_state", "_law_text_here", "_law_lines", "_law_way", "_law_k", "_law_at", "_law_words", "_law_strange", "_law_n", "_law_more", "_law_some", "_law_other", "_law_sign"] ["_law_state", "_law_text_here"] (defScope s_spoilt_text) := ⟨rfl, rfl, rfl, by decide +kernel, rfl, by decide +kernel, by decide +kernel⟩
theorem ok_spoilt {fT fO : Addr} {dT dO : FuncData} (F : L2.Fun K "_law_spoilt_text" "_law_spoilt_text" s_spoilt_text f fd) (T : Blt mg) (D_take : DefOk P w K mg base 2 "_law_take" fT dT ["_law_state", "_law_many"] spTake) (D_one : DefOk P w K mg base 3 "_law_one" fO dO ["_law_state", "_law_things"] (spOneA K)) :
    FnOk P w K mg base CX0 4 f fd ["_law_state", "_law_text_here"] spSpoil24 := by
  refine F.ok sc_spoilt_text (fun vs H Q E h => ?_) (fun cdv A outer s H vs Q E hr h => ?_)
  · obtain ⟨st, c, x, M, rfl, _⟩ := h
    rfl
  · obtain ⟨st, c, x, M, rfl, S, hsg, hM, hxl, hox, k⟩ := h
    refine ⟨_, (pss_cons (ps_par (i := 2) (j := 3) (by rfl) sc_spoilt_text.nd rfl rfl (by decide) rfl rfl (pa_cons (pe_split (pv 1) pe_str) (pa_cons (pe_d D_take (hr.mono (by decide)) (pa_cons (pv 0) (pa_cons pe_int pa_nil))) pa_nil)) (by rfl))
        (pss_cons (ps_par (i := 4) (j := 5) (by rfl) sc_spoilt_text.nd rfl rfl (by decide) rfl rfl (pa_cons (pe_d D_take (hr.mono (by decide)) (pa_cons (pv 0) (pa_cons (pe_callB call_len_seq (by rfl) T.b_len PySem.boot_len (pa_cons (pv 2) pa_nil)) pa_nil))) (pa_cons (pe_d D_take (hr.mono (by decide)) (pa_cons (pv 0) (pa_cons (pe_op op_add (pe_callB call_len_str (by rfl) T.b_len PySem.boot_len (pa_cons (pv 1) pa_nil)) pe_int) pa_nil))) pa_nil)) (by rfl))
        (pss_cons (ps_if (pt_cmpR op_lt (pv 3) pe_int (nomark _)) (pss_cons (ps_set (i := 6) sc_spoilt_text.nd rfl (by first | exact Or.inl rfl | exact Or.inr rfl) (pe_split (pe_ix ix_list (pv 2) (pv 4) (fun _ _ => rfl)) pe_str))
        (pss_cons (ps_set (i := 7) sc_spoilt_text.nd rfl (by first | exact Or.inl rfl | exact Or.inr rfl) (pe_lst (pa_cons pe_str (pa_cons pe_str (pa_cons pe_str (pa_cons pe_str (pa_cons pe_str (pa_cons pe_str (pa_cons pe_str (pa_cons pe_str (pa_cons pe_str (pa_cons pe_str (pa_cons pe_str (pa_cons pe_str pa_nil))))))))))))))
        (pss_cons (ps_par (i := 8) (j := 9) (by rfl) sc_spoilt_text.nd rfl rfl (by decide) rfl rfl (pa_cons (pe_d D_take (hr.mono (by decide)) (pa_cons (pv 0) (pa_cons (pe_callB call_len_seq (by rfl) T.b_len PySem.boot_len (pa_cons (pv 6) pa_nil)) pa_nil))) (pa_cons (pe_d D_one (hr.mono (by decide)) (pa_cons (pv 0) (pa_cons (pv 7) pa_nil))) pa_nil)) (by rfl))
        (pss_cons (ps_set (i := 10) sc_spoilt_text.nd rfl (by first | exact Or.inl rfl | exact Or.inr rfl) (pe_lst (pa_cons (pe_op op_cat (pe_slice sl_list (pv 6) po_none (po_some (pv 8))) (pe_slice sl_list (pv 6) (po_some (pe_op op_add (pv 8) pe_int)) po_none)) (pa_cons (pe_op op_cat (pe_op op_cat (pe_slice sl_list (pv 6) po_none (po_some (pv 8))) (pe_lst (pa_cons (pv 9) pa_nil))) (pe_slice sl_list (pv 6) (po_some (pe_op op_add (pv 8) pe_int)) po_none)) (pa_cons (pe_op op_cat (pe_op op_cat (pe_slice sl_list (pv 6) po_none (po_some (pv 8))) (pe_lst (pa_cons (pv 9) pa_nil))) (pe_slice sl_list (pv 6) (po_some (pv 8)) po_none)) pa_nil)))))
        (pss_cons (ps_asg (pe_join pe_str (pe_ix ix_list (pe_op op_cat (pv 10) (pe_lst (pa_cons (pe_revL (pv 6)) pa_nil))) (pv 3) (fun _ _ => rfl))) (pg_sub (pv 2) (pv 4) set_list))
        (pss_one (ps_ret (pe_join pe_str (pv 2))))))))) pss_nil)
        (pss_cons (ps_if (pt_cmpR op_lt (pv 3) pe_int (nomark _)) (pss_cons (ps_set (i := 11) sc_spoilt_text.nd rfl (by first | exact Or.inl rfl | exact Or.inr rfl) (pe_d D_one (hr.mono (by decide)) (pa_cons (pv 0) (pa_cons (pv 2) pa_nil))))
        (pss_cons (ps_set (i := 2) sc_spoilt_text.nd rfl (by first | exact Or.inl rfl | exact Or.inr rfl) (pe_op op_cat (pe_op op_cat (pe_slice sl_list (pv 2) po_none (po_some (pv 4))) (pe_lst (pa_cons (pv 11) pa_nil))) (pe_slice sl_list (pv 2) (po_some (pe_op op_add (pv 4) (pe_callTy call_int1 (by rfl) T.b_int (by decide +kernel) (pa_cons (pe_cmpR op_eq (pv 3) pe_int (nomark _)) pa_nil)))) po_none)))
        (pss_one (ps_ret (pe_join pe_str (pv 2)))))) pss_nil)
        (pss_cons (ps_set (i := 12) sc_spoilt_text.nd rfl (by first | exact Or.inl rfl | exact Or.inr rfl) (pe_d D_one (hr.mono (by decide)) (pa_cons (pv 0) (pa_cons (pe_lst (pa_cons pe_str (pa_cons pe_str (pa_cons pe_str (pa_cons pe_str (pa_cons pe_str (pa_cons pe_str (pa_cons pe_str pa_nil)))))))) pa_nil))))
        (pss_one (ps_ret (pe_ifExp (pt_cmpR op_eq (pv 3) pe_int (nomark _)) (pe_op op_add_str (pe_op op_add_str (pe_slice sl_str (pv 1) po_none (po_some (pv 5))) (pv 12)) (pe_slice sl_str (pv 1) (po_some (pv 5)) po_none)) (pe_op op_add_str (pe_slice sl_str (pv 1) po_none (po_some (pv 5))) (pe_slice sl_str (pv 1) (po_some (pe_op op_add (pv 5) pe_int)) po_none)))))))))), ?_⟩
    refine ⟨_, rfl, ⟨_, rfl⟩, x, "\n", rfl, rfl, rfl, sz_of (by omega), fun lp nlp => ⟨_, rfl, st, c, 8, rfl, S.same (Ex.new nlp), by decide, by decide, fun way H2 w0 w8 S2 k2 => ⟨_, _, rfl, ?_⟩⟩⟩
    have hsp : Txt.split x "\n" = linesOf x := rfl
    rw [hsp] at k2
    have e1 := Ex.new nlp (o := .lst ((linesOf x).map V.str))
    have nls : lp ≠ st := (S.of_new nlp).1
    have nlc : lp ≠ c := (S.of_new nlp).2
    have hlp2 : H2 lp = some (.lst ((linesOf x).map V.str)) := k2 _ _ nls upd_same
    have k02 : Kp st H H2 := (Kp.of e1).trans k2
    have hlc := lines_count x
    have hl0 : 0 < (linesOf x).length := by
      cases h : linesOf x with
      | nil => exact absurd h (lines_ne x)
      | cons a b => simp
    refine ⟨_, rfl, _, rfl, lp, _, rfl, .inl (SqL.of hlp2), st, c, _, rfl, S2, by rw [List.length_map]; omega, by rw [List.length_map]; omega, fun kk H3 k0 k1 S3 k3 => ?_⟩
    obtain ⟨kn, rfl⟩ := Int.eq_ofNat_of_zero_le k0
    have hkn : kn < (linesOf x).length := by rw [List.length_map] at k1; omega
    refine ⟨_, rfl, _, rfl, x, rfl, sz_of (by omega), _, _, rfl, rfl, st, c, _, rfl, S3, by omega, by omega, fun an H4 a0 a1 S4 k4 => ⟨_, _, rfl, ?_⟩⟩
    obtain ⟨am, rfl⟩ := Int.eq_ofNat_of_zero_le a0
    have ham : am ≤ x.length := by omega
    have k04 := (k02.trans k3).trans k4
    have hlp4 : H4 lp = some (.lst ((linesOf x).map V.str)) := k4 _ _ nls (k3 _ _ nls hlp2)
    obtain ⟨wn, rfl⟩ := Int.eq_ofNat_of_zero_le w0
    show tSeq _ _ _ [some (.ref st), some (.str x), some (.ref lp), some (.int (wn : Nat)), some (.int (kn : Nat)), some (.int (am : Nat)), none, none, none, none, none, none, none] H4
    refine q_when (et_test (ev_op (ev_var rfl) ev_c rv_I0)) (fun hb H5 e5 => ?_) (fun hb H5 e5 => ?_)
    · have hw3 := of_decide_eq_true hb
      have S5 := S4.same e5
      have hlp5 := e5 _ _ hlp4
      have k05 := k04.trans (Kp.of e5)
      obtain ⟨ln, hln⟩ : ∃ ln, (linesOf x)[kn]? = some ln := ⟨_, List.getElem?_eq_getElem hkn⟩
      have hlnM : ln.length ≤ M := sg_lines hsg ln (List.mem_of_getElem? hln)
      refine ⟨_, rfl, _, rfl, lp, _, _, _, rfl, rfl, SqL.of hlp5, atI_nat (by rw [List.getElem?_map, hln]; rfl), ⟨_, rfl⟩, ln, " ", rfl, rfl, rfl, sz_of (by omega), fun wp nwp => ?_⟩
      have hsw : Txt.split ln " " = wordsOf ln := rfl
      rw [hsw]
      have e6 := Ex.new nwp (o := .lst ((wordsOf ln).map V.str))
      have hwp6 : (upd H5 wp (.lst ((wordsOf ln).map V.str))) wp = some (.lst ((wordsOf ln).map V.str)) := upd_same
      have S6 := S5.same e6
      have nws : wp ≠ st := (S5.of_new nwp).1
      have nwc : wp ≠ c := (S5.of_new nwp).2
      have hlp6 := e6 _ _ hlp5
      have k06 := k05.trans (Kp.of e6)
      generalize upd H5 wp (.lst ((wordsOf ln).map V.str)) = H6 at hwp6 S6 hlp6 k06
      have hwc := words_count ln
      have hw0 : 0 < (wordsOf ln).length := by
        cases h : wordsOf ln with
        | nil => exact absurd h (words_ne ln)
        | cons a b => simp
      refine q_asgL (xs := strange.map V.str) (el_lst (ea_cons ev_c (ea_cons ev_c (ea_cons ev_c (ea_cons ev_c (ea_cons ev_c (ea_cons ev_c (ea_cons ev_c (ea_cons ev_c (ea_cons ev_c (ea_cons ev_c (ea_cons ev_c (ea_cons ev_c ea_nil)))))))))))) (by show 12 ≤ 100000; decide)) fun mp H7a nmp e7a hmp => ?_
      have S7a := S6.same e7a
      have nms : mp ≠ st := (S6.of_new nmp).1
      have hwp7 := e7a _ _ hwp6
      have hlp7 := e7a _ _ hlp6
      have k07 := k06.trans (Kp.of e7a)
      show tSeq _ _ _ [some (.ref st), some (.str x), some (.ref lp), some (.int (wn : Nat)), some (.int (kn : Nat)), some (.int (am : Nat)), some (.ref wp), some (.ref mp), none, none, none, none, none] H7a
      refine ⟨_, rfl, _, rfl, wp, _, rfl, .inl (SqL.of hwp7), st, c, _, rfl, S7a, by rw [List.length_map]; omega, by rw [List.length_map]; omega, fun nn H7 n0 n1 S7 k7 => ?_⟩
      obtain ⟨nm, rfl⟩ := Int.eq_ofNat_of_zero_le n0
      refine ⟨_, rfl, _, rfl, st, c, mp, strange.map V.str, rfl, S7, nms, .inl (SqL.of (k7 _ _ nms hmp)), by decide, by decide, fun mv H8 hmv S8 k8 => ⟨_, _, rfl, ?_⟩⟩
      obtain ⟨mo, rfl, hmo⟩ := strs_of hmv
      have hml := strange_len mo hmo
      have hmok : OkC mo := okc_dec (strange_ok mo hmo)
      have k68 : Kp st H7a H8 := k7.trans k8
      have hwp8 := k68 _ _ nws hwp7
      have hlp8 := k68 _ _ nls hlp7
      have k08 := k07.trans k68
      dsimp only
      show tSeq _ _ _ [some (.ref st), some (.str x), some (.ref lp), some (.int (wn : Nat)), some (.int (kn : Nat)), some (.int (am : Nat)), some (.ref wp), some (.ref mp), some (.int (nm : Nat)), some (.str mo), none, none, none] H8
      have sT := el_slTo (K := K) (σ := [some (.ref st), some (.str x), some (.ref lp), some (.int (wn : Nat)), some (.int (kn : Nat)), some (.int (am : Nat)), some (.ref wp), some (.ref mp), some (.int (nm : Nat)), some (.str mo), none, none, none]) (H := H8) (te := tVar 6) (tn := tVar 8) (n := nm) (ev_var rfl) hwp8 (ev_var rfl)
      have sD := el_slFr (K := K) (σ := [some (.ref st), some (.str x), some (.ref lp), some (.int (wn : Nat)), some (.int (kn : Nat)), some (.int (am : Nat)), some (.ref wp), some (.ref mp), some (.int (nm : Nat)), some (.str mo), none, none, none]) (H := H8) (te := tVar 6) (tn := tVar 8) (n := nm) (ev_var rfl) hwp8 (ev_var rfl)
      have sD1 := el_slFr (K := K) (σ := [some (.ref st), some (.str x), some (.ref lp), some (.int (wn : Nat)), some (.int (kn : Nat)), some (.int (am : Nat)), some (.ref wp), some (.ref mp), some (.int (nm : Nat)), some (.str mo), none, none, none]) (H := H8) (te := tVar 6) (n := nm + 1) (ev_var rfl) hwp8 (ev_inc (i := 8) rfl)
      have s1 : EvL (tLst (tCons (tVar 9) tNil)) [some (.ref st), some (.str x), some (.ref lp), some (.int (wn : Nat)), some (.int (kn : Nat)), some (.int (am : Nat)), some (.ref wp), some (.ref mp), some (.int (nm : Nat)), some (.str mo), none, none, none] H8 (([mo] : List Str).map V.str) := el_lst (ea_cons (ev_var rfl) ea_nil) (by show 1 ≤ 100000; decide)
      have hlT : ((wordsOf ln).take nm).length ≤ 401 := by rw [List.length_take]; omega
      have hlD : ∀ j, ((wordsOf ln).drop j).length ≤ 401 := fun j => by rw [List.length_drop]; omega
      have h1l : ([mo] : List Str).length = 1 := rfl
      have c1 := el_catS sT s1 (by rw [h1l]; omega)
      have hlc : (((wordsOf ln).take nm) ++ [mo]).length ≤ 402 := by rw [List.length_append, h1l]; omega
      have el3 : EvS _ _ H8 3 (.l ((wsel (wordsOf ln) nm mo).map fun W => .l ((W.map V.str).map .v))) := es_lst (es_cons (es_ofL (el_catS sT sD1 (by have := hlD (nm + 1); omega)) (by rw [List.length_map, List.length_append]; have := hlD (nm + 1); omega) (strs_flt _))
        (es_cons (es_ofL (el_catS c1 sD1 (by have := hlD (nm + 1); omega)) (by rw [List.length_map, List.length_append]; have := hlD (nm + 1); omega) (strs_flt _))
        (es_cons (es_ofL (el_catS c1 sD (by have := hlD nm; omega)) (by rw [List.length_map, List.length_append]; have := hlD nm; omega) (strs_flt _)) es_nil))) (by show 3 ≤ 40000; decide)
      refine q_asgS el3 fun sv H9 e9 r9 => ?_
      have hlp9 := e9 _ _ hlp8
      have hwp9 := e9 _ _ hwp8
      have k09 := k08.trans (Kp.of e9)
      have S9 := S8.same e9
      show tSeq _ _ _ [some (.ref st), some (.str x), some (.ref lp), some (.int (wn : Nat)), some (.int (kn : Nat)), some (.int (am : Nat)), some (.ref wp), some (.ref mp), some (.int (nm : Nat)), some (.str mo), some sv, none, none] H9
      have el4 := es_cat (σ := [some (.ref st), some (.str x), some (.ref lp), some (.int (wn : Nat)), some (.int (kn : Nat)), some (.int (am : Nat)), some (.ref wp), some (.ref mp), some (.int (nm : Nat)), some (.str mo), some sv, none, none]) (H := H9) (es_var (i := 10) rfl r9) (es_lst (es_cons (es_is (es_ofL (d := 0) (el_rev (K := K) (ta := tVar 6) (ev_var rfl) hwp9) (by rw [List.length_reverse, List.length_map]; omega) (fun y hy => strs_flt _ y (List.mem_reverse.mp hy))) (s' := .l (((wordsOf ln).reverse.map V.str).map .v)) (by rw [← List.map_reverse])) es_nil) (by show 1 ≤ 40000; decide)) (by show 3 + 1 ≤ 40000; decide)
      have hwn : wn < 4 := by omega
      obtain ⟨W, hW⟩ : ∃ W, (wsel (wordsOf ln) nm mo ++ [(wordsOf ln).reverse])[wn]? = some W := ⟨_, List.getElem?_eq_getElem (by show wn < 4; exact hwn)⟩
      have hWm := List.mem_of_getElem? hW
      have hWw : wgt W ≤ wgt (wordsOf ln) + 10 := by
        rcases List.mem_append.mp hWm with h | h
        · exact wsel_wgt hml W h
        · rw [List.mem_singleton.mp h]
          unfold wgt
          rw [List.map_reverse, List.sum_reverse, List.length_reverse]
          omega
      have hWo : ∀ p ∈ W, OkC p := by
        have ho := okc_words (okc_lines hox ln (List.mem_of_getElem? hln))
        rcases List.mem_append.mp hWm with h | h
        · exact wsel_okc ho hmok W h
        · rw [List.mem_singleton.mp h]
          exact fun p hp => ho p (List.mem_reverse.mp hp)
      have hy1 : (Txt.join " " W).length ≤ ln.length + 11 := by
        have := join_wgt1 (y := " ") rfl W
        have := wgt_words ln
        omega
      have hjz : (W.map (·.length)).sum + W.length * (" " : Str).length ≤ 16777216 := by
        have h1 : (" " : Str).length = 1 := rfl
        have h2 := wgt_words ln
        unfold wgt at hWw h2
        rw [h1]
        omega
      have evj : Ev (tM1 (rJoin K) (tC (.str " ")) (tOp (rIxL K) (tOp rCat (tVar 10) (tLst (tCons (tRevL K (tVar 6)) tNil))) (tVar 3))) [some (.ref st), some (.str x), some (.ref lp), some (.int (wn : Nat)), some (.int (kn : Nat)), some (.int (am : Nat)), some (.ref wp), some (.ref mp), some (.int (nm : Nat)), some (.str mo), some sv, none, none] H9 (.str (Txt.join " " W)) := fun Ha ea Q' q' =>
        ⟨⟨_, rfl⟩, el4 Ha ea _ fun v Hb eb rb => ⟨_, rfl, by
          obtain ⟨sa, sx, rfl, _, hsa, hsl, _, hsx⟩ := rb
          have hsl4 : sx.length = 4 := hsl
          obtain ⟨su, hsu⟩ : ∃ su, sx[wn]? = some su := ⟨_, List.getElem?_eq_getElem (by omega)⟩
          have hWs : (((wsel (wordsOf ln) nm mo).map fun W => Sh.l ((W.map V.str).map .v)) ++ [Sh.l (((wordsOf ln).reverse.map V.str).map .v)])[wn]? = some (Sh.l ((W.map V.str).map .v)) := by
            have : ((wsel (wordsOf ln) nm mo).map fun W => Sh.l ((W.map V.str).map .v)) ++ [Sh.l (((wordsOf ln).reverse.map V.str).map .v)] = (wsel (wordsOf ln) nm mo ++ [(wordsOf ln).reverse]).map fun W => Sh.l ((W.map V.str).map .v) := by rw [List.map_append]; rfl
            rw [this, List.getElem?_map, hW]
            rfl
          obtain ⟨jp, rfl, hjp⟩ := repL_inv (k := 0) (hsx wn su _ hsu hWs)
          exact ⟨sa, _, _, _, rfl, rfl, SqL.of hsa, atI_nat hsu, " ", jp, W, rfl, rfl, .inl (SqL.of hjp), hjz, q' Hb eb⟩⟩⟩
      refine q_setL (j := kn) hlp9 evj (ev_var rfl) (ev_var rfl) (by rw [List.length_map]; exact hkn) fun H10 e10 => ?_
      have hset : ((linesOf x).map V.str).set kn (.str (Txt.join " " W)) = ((linesOf x).set kn (Txt.join " " W)).map V.str := by rw [List.map_set]
      rw [hset]
      have hwl := wgt_lines x
      have hwset := wgt_set (linesOf x) kn (Txt.join " " W)
      have hfin : (((linesOf x).set kn (Txt.join " " W)).map (·.length)).sum + ((linesOf x).set kn (Txt.join " " W)).length * ("\n" : Str).length ≤ 16777216 := by
        have h1 : ("\n" : Str).length = 1 := rfl
        unfold wgt at hwl hwset
        rw [h1]
        omega
      have S11 : StAt (upd H10 lp (.lst (((linesOf x).set kn (Txt.join " " W)).map V.str))) st c := (S9.same e10).mut nls nlc
      have k11 : Kp st H (upd H10 lp (.lst (((linesOf x).set kn (Txt.join " " W)).map V.str))) := Kp.mut (k09.trans (Kp.of e10)) nlp
      refine s_ret (ev_joinL ev_c (fun H1 e1 => ev_var rfl) upd_same hfin) fun H12 e12 => k _ H12 ?_ ?_ ?_ (S11.same e12) (k11.trans (Kp.of e12))
      · refine (sg_joinS (M := M + 11) fun p hp => ?_).mono (by omega)
        rcases List.mem_or_eq_of_mem_set hp with h | h
        · have := sg_lines hsg p h; omega
        · rw [h]; omega
      · have := join_wgt1 (y := "\n") rfl ((linesOf x).set kn (Txt.join " " W))
        omega
      · refine okc_join okc_nl fun p hp => ?_
        rcases List.mem_or_eq_of_mem_set hp with h | h
        · exact okc_lines hox p h
        · rw [h]; exact okc_join okc_sp hWo
    have hw4 : ¬ wn < 4 := fun z => by rw [decide_eq_true (by omega : ((wn : Nat) : Int) < 4)] at hb; cases hb
    have S5 := S4.same e5
    have hlp5 := e5 _ _ hlp4
    have k05 := k04.trans (Kp.of e5)
    refine q_when (et_test (ev_op (ev_var (v := .int (wn : Nat)) rfl) ev_c rv_I0)) (fun hb H6 e6 => ?_) (fun hb H6 e6 => ?_)
    · have hw6 := of_decide_eq_true hb
      have S6 := S5.same e6
      have hlp6 := e6 _ _ hlp5
      have k06 := k05.trans (Kp.of e6)
      refine ⟨_, rfl, _, rfl, st, c, lp, _, rfl, S6, nls, .inl (SqL.of hlp6), by rw [List.length_map]; exact hl0, by rw [List.length_map]; omega, fun lv H8 hlv S8 k8 => ?_⟩
      obtain ⟨li, rfl, hli⟩ := strs_of hlv
      have hliM : li.length ≤ M := sg_lines hsg li hli
      have hlp8 := k8 _ _ nls hlp6
      have k08 := k06.trans k8
      show tSeq _ _ _ [some (.ref st), some (.str x), some (.ref lp), some (.int (wn : Nat)), some (.int (kn : Nat)), some (.int (am : Nat)), none, none, none, none, none, some (.str li), none] H8
      have hkl : ((linesOf x).take kn).length ≤ 5001 := by rw [List.length_take]; omega
      have hdl : ∀ j, ((linesOf x).drop j).length ≤ 5001 := fun j => by rw [List.length_drop]; omega
      have sT := el_slTo (K := K) (σ := [some (.ref st), some (.str x), some (.ref lp), some (.int (wn : Nat)), some (.int (kn : Nat)), some (.int (am : Nat)), none, none, none, none, none, some (.str li), none]) (H := H8) (te := tVar 2) (tn := tVar 4) (n := kn) (ev_var rfl) hlp8 (ev_var rfl)
      have s1 : EvL (tLst (tCons (tVar 11) tNil)) [some (.ref st), some (.str x), some (.ref lp), some (.int (wn : Nat)), some (.int (kn : Nat)), some (.int (am : Nat)), none, none, none, none, none, some (.str li), none] H8 (([li] : List Str).map V.str) := el_lst (ea_cons (ev_var rfl) ea_nil) (by show 1 ≤ 100000; decide)
      obtain ⟨j, hj, evi⟩ : ∃ j : Nat, (j = kn ∨ j = kn + 1) ∧ Ev (tOp (rI0 fun i j => .int (i + j)) (tVar 4) (tCB (fun xs H Q => (∃ i, xs = [V.int i] ∧ Q (V.int i) H) ∨ ∃ k, xs = [V.bl k] ∧ Q (V.int (if k = true then 1 else 0)) H) (tCons (tOp rEq (tVar 3) (tC (.int 4))) tNil))) [some (.ref st), some (.str x), some (.ref lp), some (.int (wn : Nat)), some (.int (kn : Nat)), some (.int (am : Nat)), none, none, none, none, none, some (.str li), none] H8 (.int (j : Nat)) := by
        refine ⟨if wn = 4 then kn + 1 else kn, by split <;> simp, ?_⟩
        refine fun Ha ea Q' q' => ⟨_, rfl, _, rfl, rfl, .inr ⟨_, rfl, _, _, rfl, rfl, ?_⟩⟩
        by_cases h4 : wn = 4
        · rw [if_pos h4] at q'
          subst h4
          show Q' (.int ((kn : Int) + (if decide (V.int ((4 : Nat) : Int) = V.int 4) = true then 1 else 0))) Ha
          have := q' Ha (Ex.refl _)
          have e4 : (if decide (V.int ((4 : Nat) : Int) = V.int 4) = true then (1 : Int) else 0) = 1 := if_pos (decide_eq_true rfl)
          rw [e4]
          exact this
        · rw [if_neg h4] at q'
          have h5 : ¬ V.int (wn : Nat) = V.int 4 := fun z => h4 (by have := V.int.inj z; omega)
          show Q' (.int ((kn : Int) + (if decide (V.int (wn : Nat) = V.int 4) = true then 1 else 0))) Ha
          rw [if_neg (by rw [decide_eq_false h5]; decide)]
          have := q' Ha (Ex.refl _)
          rw [Int.add_zero]
          exact this
      have sD := el_slFr (K := K) (σ := [some (.ref st), some (.str x), some (.ref lp), some (.int (wn : Nat)), some (.int (kn : Nat)), some (.int (am : Nat)), none, none, none, none, none, some (.str li), none]) (H := H8) (te := tVar 2) (n := j) (ev_var rfl) hlp8 evi
      have h1l : ([li] : List Str).length = 1 := rfl
      have el := el_catS (el_catS sT s1 (by rw [h1l]; omega)) sD (by rw [List.length_append, h1l]; have := hdl j; omega)
      refine q_asgL el fun fp H9 nfp e9 hfp => ?_
      have S9 := S8.same e9
      have k09 := k08.trans (Kp.of e9)
      have hwl := wgt_lines x
      have hwc := wgt_cut (linesOf x) kn
      have hw1 := wgt_one li
      have hwd : wgt ((linesOf x).drop j) ≤ wgt ((linesOf x).drop kn) := by
        rcases hj with rfl | rfl
        · exact Nat.le_refl _
        · exact wgt_drop _ _
      have hwt : wgt (((linesOf x).take kn ++ [li]) ++ (linesOf x).drop j) ≤ x.length + 1 + (li.length + 1) := by rw [wgt_app, wgt_app]; omega
      refine s_ret (ev_joinL ev_c (fun H1 e1 => ev_var rfl) hfp ?_) fun H12 e12 => k _ H12 ?_ ?_ ?_ (S9.same e12) (k09.trans (Kp.of e12))
      · have h1 : ("\n" : Str).length = 1 := rfl
        unfold wgt at hwt
        rw [h1]
        omega
      · refine (sg_joinS (M := M) fun p hp => ?_).mono (by omega)
        rcases List.mem_append.mp hp with h | h
        · rcases List.mem_append.mp h with h | h
          · exact sg_lines hsg p (List.mem_of_mem_take h)
          · rw [List.mem_singleton.mp h]; exact hliM
        · exact sg_lines hsg p (List.mem_of_mem_drop h)
      · have := join_wgt1 (y := "\n") rfl (((linesOf x).take kn ++ [li]) ++ (linesOf x).drop j)
        omega
      · refine okc_join okc_nl fun p hp => ?_
        rcases List.mem_append.mp hp with h | h
        · rcases List.mem_append.mp h with h | h
          · exact okc_lines hox p (List.mem_of_mem_take h)
          · rw [List.mem_singleton.mp h]; exact okc_lines hox li hli
        · exact okc_lines hox p (List.mem_of_mem_drop h)
    · have S6 := S5.same e6
      have k06 := k05.trans (Kp.of e6)
      refine ⟨_, rfl, by show 7 ≤ sizeLine; decide, fun gp ngp => ⟨st, c, gp, signs7.map V.str, rfl, S6.same (Ex.new ngp), (S6.of_new ngp).1, .inl (SqL.of upd_same), by decide, by decide, fun gv H8 hgv S8 k8 => ?_⟩⟩
      obtain ⟨gs, rfl, hgs⟩ := strs_of hgv
      have hgl := signs7_len gs hgs
      have hgo : OkC gs := okc_dec (signs7_ok gs hgs)
      have k08 := k06.trans ((Kp.of (Ex.new ngp (o := .lst (signs7.map V.str)))).trans k8)
      have et4 : EvT (tTest (tOp rEq (tVar 3) (tC (.int 6)))) [some (.ref st), some (.str x), some (.ref lp), some (.int (wn : Nat)), some (.int (kn : Nat)), some (.int (am : Nat)), none, none, none, none, none, none, some (.str gs)] H8 (decide (wn = 6)) := by
        refine et_is (et_test (ev_op (ev_var (v := .int (wn : Nat)) rfl) ev_c (rv_eq rfl))) ?_
        have : (V.int (wn : Nat) = V.int 6) = (wn = 6) := propext ⟨fun z => by have := V.int.inj z; omega, fun z => by rw [z]; rfl⟩
        simp only [this]
      have lfr : ∀ j : Nat, (cutS x (some (j : Int)) none).length = x.length - j := fun j => by rw [len_tl, tl_cutFr, List.length_drop, ← len_tl]
      have lto1 : (cutS x none (some (am : Int))).length = am := by rw [len_tl, tl_cutTo, List.length_take, ← len_tl]; omega
      refine r_if et4 (fun hb H9 e9 => ?_) (fun hb H9 e9 => ?_)
      · refine ev_addS (σ := [some (.ref st), some (.str x), some (.ref lp), some (.int (wn : Nat)), some (.int (kn : Nat)), some (.int (am : Nat)), none, none, none, none, none, none, some (.str gs)]) (H := H9) (ev_addS (ev_slS (z := x) (ev_var rfl) eo_none (eo_some (i := (am : Nat)) (ev_var rfl)) (by omega)) (ev_var rfl) (by omega)) (ev_slS (z := x) (ev_var rfl) (eo_some (i := (am : Nat)) (ev_var rfl)) eo_none (by omega)) (by rw [len_appQ, lto1, lfr]; omega) H9 (Ex.refl _) _ fun H10 e10 => k _ H10 ?_ ?_ ?_ ((S8.same e9).same e10) (k08.trans (Kp.of (Ex.trans e9 e10)))
        · rw [tl_app, tl_app, tl_cutTo, tl_cutFr]
          exact (sg_app (sg_app (sg_take hsg) (sg_short (M := 1) (by rw [← len_tl]; exact hgl))) (sg_drop hsg)).mono (by omega)
        · rw [len_appQ, len_appQ, lto1, lfr]
          omega
        · exact okc_app (okc_app (okc_cutTo hox am) hgo) (okc_cutFr hox am)
      · refine ev_addS (σ := [some (.ref st), some (.str x), some (.ref lp), some (.int (wn : Nat)), some (.int (kn : Nat)), some (.int (am : Nat)), none, none, none, none, none, none, some (.str gs)]) (H := H9) (ev_slS (z := x) (ev_var rfl) eo_none (eo_some (i := (am : Nat)) (ev_var rfl)) (by omega)) (ev_slS (z := x) (ev_var rfl) (eo_some (i := ((am + 1 : Nat) : Int)) (ev_inc rfl)) eo_none (by omega)) (by rw [lto1, lfr]; omega) H9 (Ex.refl _) _ fun H10 e10 => k _ H10 ?_ ?_ ?_ ((S8.same e9).same e10) (k08.trans (Kp.of (Ex.trans e9 e10)))
        · rw [tl_app, tl_cutTo, tl_cutFr]
          exact (sg_app (sg_take hsg) (sg_drop hsg)).mono (by omega)
        · rw [len_appQ, lto1, lfr]
          omega
        · exact okc_app (okc_cutTo hox am) (okc_cutFr hox (am + 1))
end
end Lm

namespace Lm
open PySem L2 Evl RZ TL ClX LamX
/-- an error with two fields, told -/
def ClF2 (C : Addr) (f1 f2 tag : Str) (Q : VK) : XK := fun cls d H => ∃ v1 v2, cls = .ref C ∧ ∃ dd fs, d = some dd ∧ H dd = some (.xd fs) ∧ fs.lookup f1 = some v1 ∧ fs.lookup f2 = some v2 ∧ ∀ p, H p = none → Q (.ref p) (upd H p (.tup [.str tag, v1, v2]))
/-- a rule that was made, told -/
def pMade (CR : Addr) : V → Hp → VK → Prop := fun v H Q => ∃ fs wy nm i, RlQ CR fs wy i v H ∧ (nmsOf fs)[i]? = some nm ∧ ∀ p xs t u H', H p = none → Ex H H' → H' p = some (.lst xs) → RowsT H' xs fs → H' t = some (.tup [.str wy, .str nm]) → H' u = some (.tup [.str "made", .ref p, .ref t]) → Q (.ref u) H'
abbrev Cl24 (CB CU : Addr) : VK → XK := Cl2 (ClF CB "line" "text") (ClF2 CU "index" "reason" "rule")
abbrev s_tried : Stmt := top 36
theorem sc_tried : FnScope ["_law_ask", "_law_found", "_law_made", "e"] ["_law_ask"] (defScope s_tried) := ⟨rfl, rfl, rfl, by decide +kernel, rfl, by decide +kernel, by decide +kernel⟩
theorem tried_gives {X : Cx} {CB CU CR fA fB g mF mS : Addr} {dF dS : FuncData} {cdg : Value} {q : Str} {k : Nat} (TA : ErrF X.K X.mg "BadText" CB fA "line") (TB : ErrF2 X.K X.mg "BadRule" CU fB "index" "reason") (hBA : PySem.W.subIn X.K (.ref CU) (.ref CB) = some false)
    (MF : MetOk X.prog X.w X.K X.mg X.base 1 CR "fields" mF dF ["self"] (spRlFields CR)) (MS : MetOk X.prog X.w X.K X.mg X.base 1 CR "show" mS dS ["self"] (spRlShow CR)) :
    GivesToS X ["_law_ask", "_law_found", "_law_made", "e"] "_law_tried" (defScope s_tried) g cdg (defBody s_tried) "_law_ask" q k (TTtr (Cl24 CB CU) (pMade CR)) := by
  intro f c' s H Q tl hr act hc h
  have hr1 : Room 1 (X.A.deeper (PyProof.Rows.envOfC "_law_tried" (defScope s_tried) s.heap.objs.size g cdg)) := hr.mono (by omega)
  refine ⟨_, pss_cons (ps_set (i := 1) sc_tried.nd rfl (by first | exact Or.inl rfl | exact Or.inr rfl) (pe_tup (pa_cons pe_str pa_nil))) (pss_cons (ps_clauses (X := (cxOf C8.CX0 X.prog X.w X.K X.mg X.base ["_law_ask", "_law_found", "_law_made", "e"] "_law_tried" (defScope s_tried) g cdg X.A X.stack s H C8.E0).nox)
      (cl := [(.ref CB, some 3, fun a cls d => tAsg (tTup (tCons (tC (.str "text")) (tCons (tXf a cls d CB "line" (tVar 3)) tNil))) (gName 1)), (.ref CU, some 3, fun a cls d => tAsg (tTup (tCons (tC (.str "rule")) (tCons (tXf a cls d CU "index" (tVar 3)) (tCons (tXf a cls d CU "reason" (tVar 3)) tNil)))) (gName 1))])
      (tb := fun W => tSeq (tAsg (fun σ H Q => σ[0]? = some (some (.ref f)) ∧ H c' = some (LamX.CodeO c' q) ∧ tl (WE W σ) H Q) (gName 2)) (tAsg (tTup (tCons (tC (.str "made")) (tCons (tMeth CR "fields" (spRlFields CR) [] E0 (tVar 2) tNil) (tCons (tMeth CR "show" (spRlShow CR) [] E0 (tVar 2) tNil) tNil)))) (gName 1))) (Wo := fun _ _ _ _ => False)
      rfl rfl sc_tried.nd LamX.takes0 (fun W pn xe tk _ => pss_cons (ps_set (i := 2) sc_tried.nd rfl (by first | exact Or.inl rfl | exact Or.inr rfl) (by exact (act W pn xe _ _ tk))) (pss_one (ps_set (i := 1) sc_tried.nd rfl (by first | exact Or.inl rfl | exact Or.inr rfl) (pe_tup (pa_cons pe_str (pa_cons (pe_m0 MF hr1 (pv 2)) (pa_cons (pe_m0 MS hr1 (pv 2)) pa_nil)))))))
      (.cons ⟨rfl, by decide, .inl TA.g⟩ ⟨rfl, rfl⟩ (fun a oe cls d pn hz hf => pss_one (ps_set (i := 1) sc_tried.nd rfl (by first | exact Or.inl rfl | exact Or.inr rfl) (pe_tup (pa_cons pe_str (pa_cons (pe_xf TA.X TA.no hz hf (pv 3)) pa_nil)))))
      (.cons ⟨rfl, by decide, .inl TB.g⟩ ⟨rfl, rfl⟩ (fun a oe cls d pn hz hf => pss_one (ps_set (i := 1) sc_tried.nd rfl (by first | exact Or.inl rfl | exact Or.inr rfl) (pe_tup (pa_cons pe_str (pa_cons (pe_xf TB.X TB.n1 hz hf (pv 3)) (pa_cons (pe_xf TB.X TB.n2 hz hf (pv 3)) pa_nil))))))
      .nil))) (pss_one (ps_ret (pv 1)))), ?_⟩
  refine ⟨by show 1 ≤ sizeLine; decide, fun p0 np0 => ⟨rfl, by rw [upd_ne (ne_of_none hc np0)]; exact hc, ?_⟩⟩
  refine h p0 np0 _ _ (fun cls d H' hcl => ?_) (fun v H' hp => ?_)
  · rcases hcl with ⟨v, ⟨rfl, dd, fs, rfl, hd, hl⟩, hq⟩ | ⟨v1, v2, rfl, dd, fs, rfl, hd, hl1, hl2, hq⟩
    · exact ⟨true, TA.exm, fun _ a na => ⟨_, rfl, rfl, rfl, dd, fs, v, rfl, hd, hl, by show 2 ≤ sizeLine; decide, fun p np => ⟨_, rfl, hq p np⟩⟩, (fun z => nomatch z)⟩
    · exact ⟨false, exm_at TA.T.exC TA.ic TA.T.tyC hBA, (fun z => nomatch z), fun _ => ⟨true, TB.exm, fun _ a na => ⟨_, rfl, rfl, rfl, dd, fs, v1, rfl, hd, hl1, _, rfl, rfl, rfl, dd, fs, v2, rfl, hd, hl2, by show 3 ≤ sizeLine; decide, fun p np => ⟨_, rfl, hq p np⟩⟩, (fun z => nomatch z)⟩⟩
  · obtain ⟨fs, wy, nm, i, ⟨a, rfl, ha⟩, hi, hq⟩ := hp
    obtain ⟨dx, t, ts, h3, _⟩ := id ha.ob
    refine ⟨_, rfl, a, dx, _, rfl, h3, rl_nof _ _ _, a, fs, wy, i, rfl, ha, fun p xs H1 np e1 hp hR => ⟨_, rfl, a, dx, _, rfl, e1 _ _ h3, rl_nos _ _ _, a, fs, wy, i, rfl, ha.same e1, fun t' nm' H2 hn nt e2 ht => ⟨by show 3 ≤ sizeLine; decide, fun u nu => ⟨_, rfl, ?_⟩⟩⟩⟩
    have hi' : (fs.map fun z => z.1)[i]? = some nm := hi
    rw [hi'] at hn
    cases hn
    have e3 := Ex.new nu (o := .tup [.str "made", .ref p, .ref t'])
    exact hq p xs t' u _ np (Ex.trans e1 (Ex.trans e2 e3)) (Ex.trans e2 e3 _ _ hp) (hR.same (Ex.trans e2 e3)) (e3 _ _ ht) upd_same
/-- _law_tried(lambda: e) -/
theorem pe_tried {X : Cx} {CB CU CR fA fB g c P mF mS : Addr} {fdg dF dS : FuncData} {k : Nat} {t : XK → TE} {params : Arguments} {body : Expr} {scope : Scope} {p lpos pos : Pos} (Fg : L2.Fun X.K "_law_tried" "_law_tried" s_tried g fdg) (hb : L2.Binds X.K fdg ["_law_ask"] []) (hm : X.mg "_law_tried" = some (.ref g))
    (TA : ErrF X.K X.mg "BadText" CB fA "line") (TB' : ErrF2 X.K X.mg "BadRule" CU fB "index" "reason") (hBA : PySem.W.subIn X.K (.ref CU) (.ref CB) = some false)
    (MF : MetOk X.prog X.w X.K X.mg X.base 1 CR "fields" mF dF ["self"] (spRlFields CR)) (MS : MetOk X.prog X.w X.K X.mg X.base 1 CR "show" mS dS ["self"] (spRlShow CR))
    (TB : LamX.TabB X.base X.mg c P) (hcode : X.env.code = .ref c) {Tl : List (Addr × Str)} (hmT : (P, X.env.qual ++ "<lambda>") ∈ Tl) (hu : ∀ p ∈ Tl, p.1 = P → p.2 = X.env.qual ++ "<lambda>") (hr : Room (k + 2) X.A)
    (hbody : ∀ (A : Around) (outer : List Env) (s : Shared) (H : Hp) (E : XK) (f c' : Addr), Room k (A.deeper (LamX.lamEnv X scope s.heap.objs.size f c')) → PE (LamX.lamCx X A outer s H E scope f c') body (t E))
    (L : LamX.LamS X.env.scope scope) (hg : Gl X "_law_tried" := by rfl) (hdef : defaultsOf params X.env = ([], []) := by rfl)
    (hbind : ∀ (q : Str) (cl : List (Str × Addr)) (pm cv ctv : Value), bindArgs (PySem.W.kla_fn "<lambda>" q params body scope cl pm cv ctv) ⟨[], []⟩ = pure [] := by intros; rfl) :
    PE X (.Call (.Name "_law_tried" p) [.Lambda params body scope lpos] [] pos) (LamX.tLam Tl (TTtr (Cl24 CB CU) (pMade CR)) t) := by
  obtain ⟨oc, od, kV, doc, pm, an, cdv, ct, osl, rfl, lk, hcd⟩ := Fg.ex
  exact pe_lamcallS (c := c) (P := P) hg hm Fg.kp lk hcd hb sc_tried rfl (.inl rfl) (tried_gives TA TB' hBA MF MS) TB hcode hmT hu hr L hdef hbind hbody
theorem lk_ir (a b : V) : ([(("reason" : Str), a), ("index", b)] : List (Str × V)).lookup ("index" : Str) = some b := by
  have : (("index" : Str) == "reason") = false := by decide +kernel
  simp [List.lookup, this]
/-- not a list before -/
def NL (H : Hp) (a : Addr) : Prop := ∀ xs, H a ≠ some (.lst xs)
def TrL (Tl : List (Addr × Str)) (te : TE) (σ : L2.St) (H : Hp) (d : Nat) (s : Sh) : Prop := ∀ H1, ExtN H H1 → Tabs Tl H1 → ∀ Q : VK, (∀ v H2, ExtN H1 H2 → Tabs Tl H2 → RepB H2 (NL H1) d v s → Q v H2) → te σ H1 Q
theorem NL.tup {H H' : Hp} {a : Addr} {ys : List V} (e : ExtN H H') (h : H' a = some (.tup ys)) : NL H a := fun xs hx => by
  have := e _ _ hx (by intro ps z; cases z)
  rw [h] at this
  cases this
theorem NL.new {H H' : Hp} {a : Addr} (e : ExtN H H') (h : H' a = none) : NL H a := fun xs hx => by
  have := e _ _ hx (by intro ps z; cases z)
  rw [h] at this
  cases this
theorem tr_out {CR CB CU : Addr} {Tl : List (Addr × Str)} {t : XK → TE} {σ : L2.St} {H : Hp} {o : OutK} (ho : ∀ fs wy nm, o = .made fs wy nm → fs.length ≤ 1000 ∧ ∀ z ∈ fs, z.2.length ≤ 1000) (h : ∀ H1, ExtN H H1 → ∀ (E : XK) (R : VK), OutW CR CB CU H1 R E o → t E σ H1 R) :
    TrL Tl (tLam Tl (TTtr (Cl24 CB CU) (pMade CR)) t) σ H 4 (outSh o) := fun H1 e1 T1 Q q => by
  refine ⟨T1, fun H2 e2 T2 p0 np0 E R hE hR => ?_⟩
  have s0 : ∀ b o, H2 b = some o → upd H2 p0 (.tup [.str "odd"]) b = some o := fun b o e => by rw [upd_ne (ne_of_none e np0)]; exact e
  refine h _ ((e1.trans e2).trans (.of s0)) E R ?_
  have flatR : ∀ {H' : Hp} {p : Addr} {xs : List V}, ExtN H1 H' → H' p = some (.tup xs) → xs.length ≤ 40000 → (∀ x ∈ xs, flt x) → RepB H' (NL H1) 4 (.ref p) (.t (xs.map .v)) := fun {H' p xs} e hp hl hf => rep_flatT (d := 2) (NL.tup e hp) hp hl hf
  cases o with
  | text n =>
    refine fun H' d s nd => hE _ _ _ (.inl ⟨.int (n : Nat), ⟨rfl, d, _, rfl, upd_same, by simp [List.lookup]⟩, fun p np => ?_⟩)
    have s1 : ∀ b o, H2 b = some o → upd (upd H' d (.xd [("line", .int (n : Nat))])) p (.tup [.str "text", .int (n : Nat)]) b = some o := fun b o e => by
      have e2 := s _ _ (s0 b o e)
      have e3 : upd H' d (.xd [("line", .int (n : Nat))]) b = some o := by rw [upd_ne (ne_of_none e2 nd)]; exact e2
      rw [upd_ne (ne_of_none e3 np)]; exact e3
    exact q _ _ (e2.trans (.of s1)) (T2.ext s1) (flatR (xs := [.str "text", .int (n : Nat)]) (e2.trans (.of s1)) upd_same (by show 2 ≤ 40000; decide) fun y hy => by
      simp only [List.mem_cons, List.not_mem_nil, or_false] at hy
      rcases hy with rfl | rfl
      · exact str_flt _
      · exact .inl ⟨_, rfl⟩)
  | dup k =>
    refine fun H' d s nd => hE _ _ _ (.inr ⟨.int (k : Nat), .str "name", rfl, d, _, rfl, upd_same, lk_ir _ _, by simp [List.lookup], fun p np => ?_⟩)
    have s1 : ∀ b o, H2 b = some o → upd (upd H' d (.xd [("reason", .str "name"), ("index", .int (k : Nat))])) p (.tup [.str "rule", .int (k : Nat), .str "name"]) b = some o := fun b o e => by
      have e2 := s _ _ (s0 b o e)
      have e3 : upd H' d (.xd [("reason", .str "name"), ("index", .int (k : Nat))]) b = some o := by rw [upd_ne (ne_of_none e2 nd)]; exact e2
      rw [upd_ne (ne_of_none e3 np)]; exact e3
    exact q _ _ (e2.trans (.of s1)) (T2.ext s1) (flatR (xs := [.str "rule", .int (k : Nat), .str "name"]) (e2.trans (.of s1)) upd_same (by show 3 ≤ 40000; decide) fun y hy => by
      simp only [List.mem_cons, List.not_mem_nil, or_false] at hy
      rcases hy with rfl | rfl | rfl
      · exact str_flt _
      · exact .inl ⟨_, rfl⟩
      · exact str_flt _)
  | noshow =>
    refine fun H' d s nd => hE _ _ _ (.inr ⟨.non, .str "show", rfl, d, _, rfl, upd_same, lk_ir _ _, by simp [List.lookup], fun p np => ?_⟩)
    have s1 : ∀ b o, H2 b = some o → upd (upd H' d (.xd [("reason", .str "show"), ("index", .non)])) p (.tup [.str "rule", .non, .str "show"]) b = some o := fun b o e => by
      have e2 := s _ _ (s0 b o e)
      have e3 : upd H' d (.xd [("reason", .str "show"), ("index", .non)]) b = some o := by rw [upd_ne (ne_of_none e2 nd)]; exact e2
      rw [upd_ne (ne_of_none e3 np)]; exact e3
    exact q _ _ (e2.trans (.of s1)) (T2.ext s1) (flatR (xs := [.str "rule", .non, .str "show"]) (e2.trans (.of s1)) upd_same (by show 3 ≤ 40000; decide) fun y hy => by
      simp only [List.mem_cons, List.not_mem_nil, or_false] at hy
      rcases hy with rfl | rfl | rfl
      · exact str_flt _
      · exact .inr (.inr (.inr rfl))
      · exact str_flt _)
  | made fs wy nm =>
    obtain ⟨hl, hn⟩ := ho fs wy nm rfl
    refine fun i v H' hi hf hw s hv => hR _ _ ⟨fs, wy, nm, i, hv, hi, fun p xs tt u H'' np s2 hp hRw ht hu => ?_⟩
    have s1 : ∀ b o, H2 b = some o → H'' b = some o := fun b o e => s2 _ _ (s _ _ (s0 b o e))
    have e3 := e2.trans (.of s1)
    have eN : ExtN H1 H' := e2.trans (.of fun b o e => s _ _ (s0 b o e))
    refine q _ _ e3 (T2.ext s1) ⟨u, [.str "made", .ref p, .ref tt], rfl, NL.tup e3 hu, hu, rfl, by show 3 ≤ 40000; decide, fun j y s' q1 q2 => ?_⟩
    match j, q1, q2 with
    | 0, q1, q2 => cases (Option.some.inj q1); cases (Option.some.inj q2); exact ⟨rfl, str_flt _⟩
    | 1, q1, q2 =>
      cases (Option.some.inj q1); cases (Option.some.inj q2)
      refine ⟨p, xs, rfl, NL.new eN np, hp, by rw [List.length_map, hRw.len], by rw [hRw.len]; omega, fun i' y' s'' z1 z2 => ?_⟩
      rw [List.getElem?_map] at z2
      cases e : fs[i']? with
      | none => rw [e] at z2; cases z2
      | some z =>
        rw [e] at z2
        cases (Option.some.inj z2)
        obtain ⟨uu, hu1, hu2⟩ := hRw.get e
        rw [hu1] at z1
        cases z1
        exact rep_flatT (d := 0) (NL.tup e3 hu2) hu2 (by have := hn z (List.mem_of_getElem? e); simp; omega) (strs_flt _)
    | 2, q1, q2 =>
      cases (Option.some.inj q1); cases (Option.some.inj q2)
      exact rep_flatT (d := 1) (xs := [.str wy, .str nm]) (NL.tup e3 ht) ht (by show 2 ≤ 40000; decide) fun y hy => by
        simp only [List.mem_cons, List.not_mem_nil, or_false] at hy
        rcases hy with rfl | rfl <;> exact str_flt _
    | j + 3, q1, q2 => simp at q1
end Lm

namespace Lm
open PySem L2 Evl RZ TL ClX
def bodyF (z : Str × List Str) : Str := Txt.join " " (wordsF z.1 z.2)
section
variable {K : PySem.W.Frag} {σ : L2.St} {H : Hp} {ta tb : TE}
theorem el_catV {p : Addr} {xs ys : List V} (ha : Ev ta σ H (.ref p)) (hp : H p = some (.lst xs)) (hb : EvL tb σ H ys) (hl : xs.length + ys.length ≤ 100000) : EvL (tOp rCat ta tb) σ H (xs ++ ys) := fun H1 e Q q => ha H1 e _ fun H2 e2 => hb H2 (Ex.trans e e2) _ fun p' H3 np' e3 hp' =>
  ⟨p, p', xs, ys, rfl, rfl, Ex.trans e (Ex.trans e2 e3) _ _ hp, hp', sz_of hl, fun r nr => q r _ (fresh_back (Ex.trans e2 e3) nr) ((e2.trans e3).trans (Ex.new nr)) upd_same⟩
end
section
variable {K : PySem.W.Frag} {σ : L2.St} {H : Hp}
theorem ev_incQ {i n : Nat} (h : σ[i]? = some (some (.int (n : Nat)))) : Ev (tOp (rI0 fun i j => .int (i + j)) (tVar i) (tC (.int 1))) σ H (.int ((n + 1 : Nat) : Int)) := ev_op (ev_var h) ev_c fun H1 e Q q => ⟨_, _, rfl, rfl, by
  have : (n : Int) + 1 = ((n + 1 : Nat) : Int) := by omega
  show Q (.int ((n : Int) + 1)) H1
  rw [this]
  exact q H1 (Ex.refl _)⟩
theorem ev_joinN {te tj : TE} {y : Str} {ps : List Str} (hy : Ev tj σ H (.str y)) (h : EvL te σ H (ps.map V.str)) (hz : (ps.map (·.length)).sum + ps.length * y.length ≤ 16777216) : Ev (tM1 (rJoin K) tj te) σ H (.str (Txt.join y ps)) := fun H1 e Q q => hy H1 e _ fun H2 e2 => ⟨⟨_, rfl⟩, h H2 (Ex.trans e e2) _ fun p H3 np e3 hp => ⟨y, p, ps, rfl, rfl, .inl (SqL.of hp), hz, q H3 (Ex.trans e2 e3)⟩⟩
end
theorem wordsF_ten {nm : Str} {r : List Str} (h : FldOk nm r) : wgt (wordsF nm r) ≤ 200 := by
  have h1 := wgt_join1 (ps := wordsF nm r) (n := 10) fun p hp => by
    have hn := (isW_free h.wd).2.2
    have hcl : ∀ c ∈ colN, c.length ≤ 4 := by decide +kernel
    unfold wordsF at hp
    rcases List.mem_append.mp hp with hp | hp
    · simp only [List.mem_cons, List.not_mem_nil, or_false] at hp
      rcases hp with rfl | rfl
      · decide +kernel
      · omega
    · obtain ⟨q, hq, hp⟩ := List.mem_flatten.mp hp
      obtain ⟨z, hz, rfl⟩ := List.mem_map.mp hq
      have hm := List.of_mem_zip hz
      have w2 := (h.free _ hm.2).2.2
      have w1 := hcl _ hm.1
      unfold stepW at hp
      split at hp
      · rw [List.mem_singleton.mp hp]; exact w2
      · simp only [List.mem_cons, List.not_mem_nil, or_false] at hp
        rcases hp with rfl | rfl
        · omega
        · exact w2
  obtain ⟨a, b, c, d, e, f, rfl⟩ := six_of h.len
  have h3 : (wordsF nm [a, b, c, d, e, f]).length = 13 := by rw [wordsF_at]; rfl
  rw [h3] at h1
  omega
theorem joinE_app (ps : List Str) (x : Str) : Txt.join "" (ps ++ [x]) = Txt.join "" ps ++ x := by
  refine ext_tl ?_
  have e0 : tl ("" : Str) = [] := by decide +kernel
  have h1 : ∀ ps : List (List Nat), joinL [] ps = ps.flatten := by
    intro ps
    induction ps with
    | nil => rfl
    | cons a r ih =>
      by_cases hr : r = []
      · subst hr; simp [joinL]
      · rw [joinL_cons hr, ih]; rfl
  rw [tl_app, join_eq, tl_join, join_eq, tl_join, e0, h1, h1, List.map_append, List.flatten_append]
  simp
section
variable {P : Program} {w : World} {K : PySem.W.Frag} {mg : Str → Option Value} {base : Heap} {f : Addr} {fd : FuncData}
/-! ### the law's own text -/
def spLineL : Sp := fun vs H Q _ => ∃ (a : Addr) (nm : Str) (r : List Str), vs = [.ref a] ∧ H a = some (.tup ((nm :: r).map V.str)) ∧ r.length = 6 ∧ wgt (wordsF nm r) ≤ 200 ∧ ∀ H', Ex H H' → Q (.str (bodyF (nm, r))) H'
abbrev s_line : Stmt := top 34
theorem sc_line : FnScope ["_law_row", "_law_words", "_law_k", "_law_word"] ["_law_row"] (defScope s_line) := ⟨rfl, rfl, rfl, by decide +kernel, rfl, by decide +kernel, by decide +kernel⟩
theorem ok_line_l (F : L2.Fun K "_law_line" "_law_line" s_line f fd) (T : Blt mg) : FnOk P w K mg base CX0 1 f fd ["_law_row"] spLineL := by
  refine F.ok sc_line (fun vs H Q E h => ?_) (fun cdv A outer s H vs Q E hr h => ?_)
  · obtain ⟨a, nm, r, rfl, _⟩ := h
    rfl
  · obtain ⟨a, nm, r, rfl, ha, h6, hw, k⟩ := h
    obtain ⟨x0, x1, x2, x3, x4, x5, rfl⟩ := six_of h6
    refine ⟨_, (pss_cons (ps_set (i := 1) sc_line.nd rfl (by first | exact Or.inl rfl | exact Or.inr rfl) (pe_lst (pa_cons pe_str (pa_cons (pe_ix ix_tup (pv 0) pe_int (fun _ _ => rfl)) pa_nil))))
        (pss_cons (ps_for PassesOwn.never rfl (pi_enumA rfl T.b_enumerate (pa_cons (pe_tup (pa_cons pe_str (pa_cons pe_str (pa_cons pe_str (pa_cons pe_str (pa_cons pe_str pa_nil)))))) pa_nil)) (pg_tup rfl (pgs_cons (pg_name (i := 2) sc_line.nd rfl (by first | exact Or.inl rfl | exact Or.inr rfl)) (pgs_cons (pg_name (i := 3) sc_line.nd rfl (by first | exact Or.inl rfl | exact Or.inr rfl)) pgs_nil))) (pss_one (ps_set (i := 1) sc_line.nd rfl (by first | exact Or.inl rfl | exact Or.inr rfl) (pe_op op_cat (pv 1) (pe_lst (pa_cons (pv 3) (pa_cons (pe_ix ix_tup (pv 0) (pe_op op_add (pv 2) pe_int) (fun _ _ => rfl)) pa_nil)))))))
        (pss_one (ps_ret (pe_join pe_str (pe_op op_cat (pv 1) (pe_lst (pa_cons (pe_ix ix_tup (pv 0) pe_int (fun _ _ => rfl)) pa_nil)))))))), ?_⟩
    have hx : ∀ {σ : L2.St} {H' : Hp} {te : TE} {n : Nat} {v : V}, Ex H H' → σ[0]? = some (some (.ref a)) → Ev te σ H' (.int (n : Nat)) → ((nm :: [x0, x1, x2, x3, x4, x5]).map V.str)[n]? = some v → Ev (tOp (rIxT K) (tVar 0) te) σ H' v := fun e h0 ht hv => ev_op (ev_var h0) ht (rv_ixT (st_of (e _ _ ha)) (atI_nat hv))
    refine q_asgL (xs := [.str "field", .str nm]) (el_lst (ea_cons ev_c (ea_cons (hx (n := 0) (Ex.refl _) rfl ev_c rfl) ea_nil)) (by show 2 ≤ 100000; decide)) fun l H1 nl e1 hl => ?_
    dsimp only [L2.start, List.set]
    refine ⟨by show 5 ≤ sizeLine; decide, fun tp ntp => ⟨tp, [.str "read", .str "jump", .str "anew", .str "give", .str "take"], rfl, .inr ⟨SqT.of upd_same, ?_⟩⟩⟩
    have e2 := Ex.new ntp (o := .tup [.str "read", .str "jump", .str "anew", .str "give", .str "take"])
    refine for_it walk_enumT (fun i σ' H' => ∃ (p : Addr) (u2 u3 : Option V), σ' = [some (.ref a), some (.ref p), u2, u3] ∧ Ex H H' ∧ H' tp = some (.tup [.str "read", .str "jump", .str "anew", .str "give", .str "take"]) ∧ H' p = some (.lst ((([("field" : Str), nm, "read", x0, "jump", x1, "anew", x2, "give", x3, "take", x4] : List Str).take (2 + 2 * i)).map V.str))) ⟨l, _, _, rfl, Ex.trans e1 e2, upd_same, e2 _ _ hl⟩ (fun i σ' H' _ ⟨_, _, _, _, _, h, _⟩ => SqT.of h) ?_ ?_
    · rintro i v σ' H3 H4 hi ⟨p, u2, u3, rfl, e3, htp3, hp3⟩ ⟨t, y1, y2, rfl, nt, rfl, hy1, hy2⟩
      cases (Option.some.inj hy1)
      refine ⟨t, _, rfl, SqT.of upd_same, rfl, _, _, rfl, _, _, rfl, rfl, ?_⟩
      dsimp only [List.set]
      have et := Ex.new nt (o := .tup [.int (i : Nat), y2])
      have hp4 := et _ _ hp3
      have htp4 := et _ _ htp3
      have e4 := Ex.trans e3 et
      generalize upd H3 t (.tup [.int (i : Nat), y2]) = H4 at hp4 htp4 e4
      have hi5 : i < 5 := hi
      have hy2 : ([.str "read", .str "jump", .str "anew", .str "give", .str "take"] : List V)[i]? = some y2 := hy2
      obtain ⟨z, hz⟩ : ∃ z, ((nm :: [x0, x1, x2, x3, x4, x5]).map V.str)[i + 1]? = some z := ⟨_, List.getElem?_eq_getElem (by show i + 1 < 7; omega)⟩
      have el := el_catV (σ := [some (.ref a), some (.ref p), some (.int (i : Nat)), some y2]) (H := H4) (ta := tVar 1) (ev_var rfl) hp4 (el_lst (vs := [y2, z]) (ea_cons (ev_var (i := 3) rfl) (ea_cons (hx (n := i + 1) e4 rfl (ev_incQ (i := 2) rfl) hz) ea_nil)) (by show 2 ≤ 100000; decide)) (by rw [List.length_map, List.length_take]; show _ + 2 ≤ 100000; omega)
      refine el H4 (Ex.refl _) _ fun p' H5 np5 e5 hp5 => ?_
      refine ⟨p', _, _, rfl, Ex.trans e4 e5, e5 _ _ htp4, ?_⟩
      rw [hp5]
      have : i = 0 ∨ i = 1 ∨ i = 2 ∨ i = 3 ∨ i = 4 := by omega
      rcases this with rfl | rfl | rfl | rfl | rfl <;> (cases hy2; cases hz; rfl)
    · rintro σ' H3 ⟨p, u2, u3, rfl, e3, htp3, hp3⟩
      have hp3 : H3 p = some (.lst (([("field" : Str), nm, "read", x0, "jump", x1, "anew", x2, "give", x3, "take", x4] : List Str).map V.str)) := hp3
      have el := el_catV (σ := [some (.ref a), some (.ref p), u2, u3]) (H := H3) (ta := tVar 1) (ev_var rfl) hp3 (el_lst (vs := [.str x5]) (ea_cons (hx (n := 6) e3 rfl (ev_c (v := .int ((6 : Nat) : Int))) rfl) ea_nil) (by show 1 ≤ 100000; decide)) (by show 12 + 1 ≤ 100000; decide)
      have hb : bodyF (nm, [x0, x1, x2, x3, x4, x5]) = Txt.join " " ([("field" : Str), nm, "read", x0, "jump", x1, "anew", x2, "give", x3, "take", x4] ++ [x5]) := by unfold bodyF; rw [wordsF_at]; rfl
      rw [wordsF_at] at hw
      have hcat : (([("field" : Str), nm, "read", x0, "jump", x1, "anew", x2, "give", x3, "take", x4] : List Str).map V.str ++ [.str x5]) = ([("field" : Str), nm, "read", x0, "jump", x1, "anew", x2, "give", x3, "take", x4] ++ [x5]).map V.str := rfl
      rw [hcat] at el
      refine s_ret (ev_joinN ev_c el ?_) fun H4 e4 => by rw [← hb]; exact k H4 (Ex.trans e3 e4)
      have h1 : (" " : Str).length = 1 := rfl
      rw [h1]
      unfold wgt at hw
      show ([("field" : Str), nm, "read", x0, "jump", x1, "anew", x2, "give", x3, "take", x4, x5].map (·.length)).sum + 13 * 1 ≤ 16777216
      omega
def spTextL : Sp := fun vs H Q _ => ∃ (u v : V) (fs : List (Str × List Str)) (wy nm : Str), vs = [u, v] ∧ FldsQ fs u H ∧ ShowT wy nm v H ∧ FsOk fs ∧ wy ∈ ways ∧ isW nm = true ∧ ∀ H', Ex H H' → Q (.str (textR fs wy nm)) H'
abbrev s_text : Stmt := top 35
theorem sc_text : FnScope ["_law_rows", "_law_shown", "_law_row"] ["_law_rows", "_law_shown"] (defScope s_text) := ⟨rfl, rfl, rfl, by decide +kernel, rfl, by decide +kernel, by decide +kernel⟩
theorem ok_text_l {fL : Addr} {dL : FuncData} (F : L2.Fun K "_law_text" "_law_text" s_text f fd) (T : Blt mg) (D_line : DefOk P w K mg base 1 "_law_line" fL dL ["_law_row"] spLineL) : FnOk P w K mg base CX0 2 f fd ["_law_rows", "_law_shown"] spTextL := by
  refine F.ok sc_text (fun vs H Q E h => ?_) (fun cdv A outer s H vs Q E hr h => ?_)
  · obtain ⟨u, v, fs, wy, nm, rfl, _⟩ := h
    rfl
  · obtain ⟨u, v, fs, wy, nm, rfl, ⟨a, xs, rfl, ha, ts, hxs, hlt, hts⟩, ⟨b, rfl, hb⟩, hf, hw, hn, k⟩ := h
    refine ⟨_, (pss_one (ps_ret (pe_op op_add_str (pe_op op_add_str (pe_op op_add_str (pe_op op_add_str (pe_op op_add_str (pe_join pe_str (pe_lc (own := [("_law_row", 2)]) (g := gName 2) (tt := tYes) (te := (tOp rAddS (tCall spLineL [] E0 (tCons (tVar 2) tNil)) (tC (.str "\n")))) rfl sc_text.nd (pi_list (pv 0)) (blkOk_by (own := [("_law_row", 2)]) (by kernel_rfl)) (fun _ _ _ _ _ => (pg_name (i := 2) sc_text.nd rfl (by first | exact Or.inl rfl | exact Or.inr rfl))) (fun _ _ _ _ _ => pts_nil) (fun _ _ _ _ _ => by exact (pe_op op_add_str (pe_d D_line (hr.mono (by decide)) (pa_cons (pv 2) pa_nil)) pe_str)))) pe_str) (pe_ix ix_tup (pv 1) pe_int (fun _ _ => rfl))) pe_str) (pe_ix ix_tup (pv 1) pe_int (fun _ _ => rfl))) pe_str))), ?_⟩
    have l3 := hf.l3
    have hzip : xs = (ts.zip fs).map fun z => V.ref z.1 := by
      have : (ts.zip fs).map (fun z => V.ref z.1) = ((ts.zip fs).map fun z => z.1).map V.ref := by rw [List.map_map]; rfl
      rw [this, List.map_fst_zip (by omega), hxs]
    have hln : (ts.zip fs).map (fun z => V.str (lineF z.2.1 z.2.2)) = (fs.map fun z => lineF z.1 z.2).map V.str := by
      have : (ts.zip fs).map (fun z => V.str (lineF z.2.1 z.2.2)) = ((ts.zip fs).map fun z => z.2).map (V.str ∘ fun z => lineF z.1 z.2) := by rw [List.map_map]; rfl
      rw [this, List.map_snd_zip (by omega), List.map_map]
    have mp := el_mapL (K := K) (σ := [some (.ref a), some (.ref b), none]) (H := H) (te := tOp rAddS (tCall spLineL [] E0 (tCons (tVar 2) tNil)) (tC (.str "\n"))) (tl := tVar 0) (l := ts.zip fs) (f := fun z => V.ref z.1) (g := fun z => V.str (lineF z.2.1 z.2.2)) (j := 2) (ev_var rfl) (by rw [← hzip]; exact ha) (by rw [List.length_zip]; omega) fun z hz H2 e2 => by
      obtain ⟨n, hz'⟩ := List.mem_iff_getElem?.mp hz
      obtain ⟨g1, g2⟩ := List.getElem?_zip_eq_some.mp hz'
      have hfz := hf.ok _ (List.mem_of_getElem? g2)
      have hl := lineF_len hfz
      unfold lineF at hl
      rw [len_appQ] at hl
      exact ev_addS (a := bodyF z.2) (b := "\n") (fun H3 e3 Q q => ⟨_, rfl, z.1, z.2.1, z.2.2, rfl, Ex.trans e2 e3 _ _ (hts n _ _ g2 g1), hfz.len, wordsF_ten hfz, fun H4 e4 => q H4 e4⟩) ev_c (by unfold bodyF; omega)
    rw [hln] at mp
    have hs := text_sum hf hw hn
    rw [List.map_append, List.sum_append] at hs
    have h0 : ("" : Str).length = 0 := rfl
    have h5 : ("show " : Str).length = 5 := rfl
    have h1 : (" " : Str).length = 1 := rfl
    have h2 : ("\n" : Str).length = 1 := rfl
    have hj := joinE_len (fs.map fun z => lineF z.1 z.2)
    have w1 := (ways_free wy hw).2.2
    have w2 := (isW_free hn).2.2
    have ix : ∀ {te : TE} {n : Nat} {v : V}, Ev te [some (.ref a), some (.ref b), none] H (.int (n : Nat)) → ([.str wy, .str nm] : List V)[n]? = some v → Ev (tOp (rIxT K) (tVar 1) te) [some (.ref a), some (.ref b), none] H v := fun ht hv => ev_op (ev_var rfl) ht (rv_ixT (st_of hb) (atI_nat hv))
    have heq : ((((Txt.join "" (fs.map fun z => lineF z.1 z.2) ++ ("show " : Str)) ++ wy) ++ (" " : Str)) ++ nm) ++ ("\n" : Str) = textR fs wy nm := by
      unfold textR
      rw [joinE_app]
      refine ext_tl ?_
      unfold lineS wordsS
      simp only [tl_app]
      rw [join_eq (" " : Str), tl_join, tl_sp]
      have e1 : tl ("show " : Str) = tl ("show" : Str) ++ [32] := by decide +kernel
      rw [e1]
      simp [joinL]
    rw [← heq] at k
    exact s_ret (ev_addS (ev_addS (ev_addS (ev_addS (ev_addS (ev_joinN ev_c mp (by rw [h0]; omega)) ev_c (by rw [h5]; omega)) (ix (n := 0) ev_c rfl) (by simp only [len_appQ, h5]; omega)) ev_c (by simp only [len_appQ, h5, h1]; omega)) (ix (n := 1) ev_c rfl) (by simp only [len_appQ, h5, h1]; omega)) ev_c (by simp only [len_appQ, h5, h1, h2]; omega)) fun H1 e1 => k H1 e1
end
/-! ### texts of lines -/
theorem joinE_flat (ps : List Str) : tl (Txt.join "" ps) = (ps.map tl).flatten := by
  rw [join_eq, tl_join]
  have e0 : tl ("" : Str) = [] := by decide +kernel
  rw [e0]
  generalize ps.map tl = qs
  induction qs with
  | nil => rfl
  | cons a r ih =>
    by_cases hr : r = []
    · subst hr; simp [joinL]
    · rw [joinL_cons hr, ih]; rfl
theorem sg_flat {M : Nat} : ∀ {bs : List Str}, (∀ b ∈ bs, b.length ≤ M) → SgB M ((bs.map fun b => tl (b ++ "\n")).flatten)
  | [], _ => sg_short (Nat.zero_le _)
  | b :: r, h => by
    rw [List.map_cons, List.flatten_cons, tl_app, tl_nl, List.append_assoc]
    exact sg_nl (sg_short (by rw [← len_tl]; exact h b (by simp))) (sg_flat fun q hq => h q (by simp [hq]))
theorem cols_okc : ∀ c ∈ cols, ∀ w ∈ c, (tl w).all (fun c => decide (c < 0x110000)) = true := by decide +kernel
theorem colN_okc : ∀ c ∈ colN, (tl c).all (fun c => decide (c < 0x110000)) = true := by decide +kernel
theorem ways_okc : ∀ c ∈ ways, (tl c).all (fun c => decide (c < 0x110000)) = true := by decide +kernel
theorem isW_okc {x : Str} (h : isW x = true) : OkC x := by
  unfold isW at h
  rw [Bool.and_eq_true, Bool.and_eq_true] at h
  exact fun c hc => by
    have : 97 ≤ c ∧ c ≤ 122 := by simpa using List.all_eq_true.mp h.2 c hc
    omega
theorem bodyF_okc {nm : Str} {r : List Str} (h : FldOk nm r) : OkC (bodyF (nm, r)) := by
  unfold bodyF
  refine okc_join okc_sp fun p hp => ?_
  unfold wordsF at hp
  rcases List.mem_append.mp hp with hp | hp
  · simp only [List.mem_cons, List.not_mem_nil, or_false] at hp
    rcases hp with rfl | rfl
    · exact okc_dec (by decide +kernel)
    · exact isW_okc h.wd
  · obtain ⟨q, hq, hp⟩ := List.mem_flatten.mp hp
    obtain ⟨z, hz, rfl⟩ := List.mem_map.mp hq
    obtain ⟨i, hi⟩ := List.mem_iff_getElem?.mp hz
    obtain ⟨h1, h2⟩ := List.getElem?_zip_eq_some.mp hi
    have hl := (List.getElem?_eq_some_iff.mp h2).1
    have hc6 : cols.length = 6 := rfl
    obtain ⟨c, hc⟩ : ∃ c, cols[i]? = some c := ⟨_, List.getElem?_eq_getElem (by rw [hc6]; rw [h.len] at hl; exact hl)⟩
    have ow : OkC z.2 := okc_dec (cols_okc c (List.mem_of_getElem? hc) _ (h.ok i _ c h2 hc))
    have on : OkC z.1 := okc_dec (colN_okc _ (List.mem_of_getElem? h1))
    unfold stepW at hp
    split at hp
    · rw [List.mem_singleton.mp hp]; exact ow
    · simp only [List.mem_cons, List.not_mem_nil, or_false] at hp
      rcases hp with rfl | rfl
      · exact on
      · exact ow
theorem bodyF_len {nm : Str} {r : List Str} (h : FldOk nm r) : (bodyF (nm, r)).length ≤ 144 := by
  have := lineF_len h
  unfold lineF at this
  rw [len_appQ] at this
  show (Txt.join " " (wordsF nm r)).length ≤ 144
  omega
/-- a text whose lines are short -/
structure GT (M N : Nat) (x : Str) : Prop where
  sg : SgB M (tl x)
  len : x.length ≤ N
  okc : OkC x
theorem gt_tx {M N : Nat} {x : Str} (h : GT M N x) (hM : M ≤ 900) (hN : N ≤ 10000) : TxOk x := ⟨Nat.le_trans h.len hN, fun l hl => Nat.le_trans (sg_lines h.sg l hl) hM⟩
theorem gt_lines {bs : List Str} {x : Str} (hb : ∀ b ∈ bs, b.length ≤ 144 ∧ OkC b) (hn : bs.length ≤ 5) (e : x = Txt.join "" (bs.map fun b => b ++ "\n")) : GT 144 725 x := by
  subst e
  have ef : tl (Txt.join "" (bs.map fun b => b ++ "\n")) = (bs.map fun b => tl (b ++ "\n")).flatten := by rw [joinE_flat, List.map_map]; rfl
  refine ⟨?_, ?_, ?_⟩
  · rw [ef]
    exact sg_flat fun b h => (hb b h).1
  · have h1 := joinE_len (bs.map fun b => b ++ "\n")
    have h2 := sum_leQ (l := (bs.map fun b : Str => b ++ ("\n" : Str)).map (·.length)) (m := 145) fun n h => by
      obtain ⟨y, hy, rfl⟩ := List.mem_map.mp h
      obtain ⟨b, hbb, rfl⟩ := List.mem_map.mp hy
      have := (hb b hbb).1
      rw [len_appQ]
      have h1 : ("\n" : Str).length = 1 := rfl
      omega
    rw [List.length_map, List.length_map] at h2
    omega
  · exact okc_join (okc_dec (by decide +kernel)) fun p hp => by
      obtain ⟨b, hbb, rfl⟩ := List.mem_map.mp hp
      exact okc_app (hb b hbb).2 okc_nl
theorem gt_text {fs : List (Str × List Str)} {wy nm : Str} (hf : FsOk fs) (hw : wy ∈ ways) (hn : isW nm = true) : GT 144 725 (textR fs wy nm) := by
  refine gt_lines (bs := fs.map (fun z => bodyF z) ++ [Txt.join " " (wordsS wy nm)]) (fun b hb => ?_) (by have := hf.l3; rw [List.length_append, List.length_map]; show _ + 1 ≤ 5; omega) ?_
  · rcases List.mem_append.mp hb with hb | hb
    · obtain ⟨z, hz, rfl⟩ := List.mem_map.mp hb
      exact ⟨bodyF_len (hf.ok z hz), bodyF_okc (hf.ok z hz)⟩
    · rw [List.mem_singleton.mp hb]
      have := lineS_len hw hn
      unfold lineS at this
      rw [len_appQ] at this
      refine ⟨by omega, okc_join okc_sp fun p hp => ?_⟩
      unfold wordsS at hp
      simp only [List.mem_cons, List.not_mem_nil, or_false] at hp
      rcases hp with rfl | rfl | rfl
      · exact okc_dec (by decide +kernel)
      · exact okc_dec (ways_okc _ hw)
      · exact isW_okc hn
  · unfold textR
    congr 1
    rw [List.map_append, List.map_map]
    rfl
theorem gt_four {fs : List (Str × List Str)} (hf : ∀ z ∈ fs, FldOk z.1 z.2) (hl : fs.length = 4) : GT 144 725 (Txt.join "" (fs.map fun z => lineF z.1 z.2) ++ "show stay a\n") := by
  refine gt_lines (bs := fs.map (fun z => bodyF z) ++ [("show stay a" : Str)]) (fun b hb => ?_) (by rw [List.length_append, List.length_map, hl]; decide) ?_
  · rcases List.mem_append.mp hb with hb | hb
    · obtain ⟨z, hz, rfl⟩ := List.mem_map.mp hb
      exact ⟨bodyF_len (hf z hz), bodyF_okc (hf z hz)⟩
    · rw [List.mem_singleton.mp hb]
      exact ⟨by decide +kernel, okc_dec (by decide +kernel)⟩
  · rw [← joinE_app]
    congr 1
    rw [List.map_append, List.map_map]
    have : ("show stay a\n" : Str) = ("show stay a" : Str) ++ "\n" := by decide +kernel
    rw [this]
    rfl
theorem gt_spoil {M N : Nat} {x y : Str} (h : GT M N x) (h1 : SgB (2 * M + 11) (tl y)) (h2 : y.length ≤ x.length + M + 12) (h3 : OkC y) : GT (2 * M + 11) (N + M + 12) y := ⟨h1, by have := h.len; omega, h3⟩
theorem gt_cut {M N : Nat} {x : Str} (h : GT M N x) : GT M N (cutS x none (some (-1))) := by
  have e : ∃ a b, tl (cutS x none (some (-1))) = ((tl x).drop a).take b := ⟨_, _, rfl⟩
  obtain ⟨a, b, e⟩ := e
  refine ⟨by rw [e]; exact sg_take (sg_drop h.sg), ?_, fun c hc => h.okc c ?_⟩
  · have := h.len
    rw [len_tl, e, List.length_take, List.length_drop, ← len_tl]
    omega
  · rw [e] at hc
    exact List.mem_of_mem_drop (List.mem_of_mem_take hc)
theorem GT.mono {M N M' N' : Nat} {x : Str} (h : GT M N x) (hM : M ≤ M') (hN : N ≤ N') : GT M' N' x := ⟨h.sg.mono hM, Nat.le_trans h.len hN, h.okc⟩
end Lm

namespace Lm
open PySem L2 Evl RZ TL ClX LamX
theorem lc_drawT {K : PySem.W.Frag} {st c D a : Addr} {xs : List V} {σ : L2.St} {te : TE} {j : Nat} {H1 : Hp} {Qd : Hp → Prop} (Pr : Nat → V → Hp → Prop) (S0 : StAt H1 st c) (nD : H1 D = none) (has : a ≠ st) (ha : H1 a = some (.tup xs)) (hn : xs.length ≤ 1000) (stab : ∀ i v H H', Pr i v H → KpS st D H H' → Pr i v H')
    (turn : ∀ i x H', xs[i]? = some x → StAt H' st c → Kp st H1 H' → (∃ acc, H' D = some (.lst acc)) → ∀ Q : VK, (∀ v H2, Pr i v H2 → StAt H2 st c → Kp st H' H2 → Q v H2) → te ((wipe σ [j]).set j (some x)) H' Q)
    (done : ∀ vs H', vs.length = xs.length → (∀ i v, vs[i]? = some v → Pr i v H') → StAt H' st c → Kp st H1 H' → H' D = some (.lst vs) → Qd H') :
    ∃ W : Nat → Nat → Hp → Prop, (∃ m, W 0 m (upd H1 D (.lst []))) ∧ ∀ i m H, W i m H → ((Itt K a).stop i H ∧ Qd H) ∨ ((Itt K a).go i H ∧ ∃ Nx : Hp → Prop, (∀ H', Nx H' → ∃ m', m' < m ∧ W (i + 1) m' H') ∧ ∀ x H', (Itt K a).yld i H x H' → gName j x (wipe σ [j]) H' fun σ2 H2 => wipe σ2 [j] = wipe σ [j] ∧ tYes σ2 H2 fun b H3 =>
      if b = true then te σ2 H3 fun y H4 => ∃ acc, H4 D = some (.lst acc) ∧ acc.length < sizeLine ∧ Nx (upd H4 D (.lst (acc ++ [y]))) else Nx H3) := by
  have hDs := (S0.of_new nD).1
  have hDc := (S0.of_new nD).2
  refine lc_tup (K := K) (a := a) (xs := xs) (fun i H' => StAt H' st c ∧ Kp st H1 H' ∧ ∃ vs : List V, vs.length = i ∧ H' D = some (.lst vs) ∧ ∀ k v, vs[k]? = some v → Pr k v H') ⟨S0.same (Same.upd' nD), Kp.of (Same.upd' nD), [], rfl, upd_same, fun k v h => by simp at h⟩ (fun i H' _ p => SqT.of (p.2.1 _ _ has ha)) ?_ ?_
  · rintro i x H' hx ⟨S', e, vs, hl, hD, hv⟩
    have hi := (List.getElem?_eq_some_iff.mp hx).1
    refine ⟨wipe1 σ j _, ?_⟩
    obtain ⟨xs1, hst1⟩ := S'.neL
    refine turn i x H' hx S' e ⟨_, hD⟩ _ fun v H2 hp S2 e2 => ?_
    have hD2 := e2 _ _ hDs hD
    refine ⟨vs, hD2, small1000 (by omega), S2.mut hDs hDc, Kp.mut (e.trans e2) nD, vs ++ [v], by simp [hl], upd_same, fun k y hy => ?_⟩
    have km : KpS st D H2 (upd H2 D (.lst (vs ++ [v]))) := kps_mut hD2
    rcases Nat.lt_or_ge k vs.length with hk | hk
    · rw [List.getElem?_append_left hk] at hy
      exact stab _ _ _ _ (stab _ _ _ _ (hv k y hy) (kps_of e2 hst1)) km
    · rw [List.getElem?_append_right hk] at hy
      cases q : k - vs.length with
      | zero =>
        rw [q] at hy
        cases hy
        have : k = i := by omega
        rw [this]
        exact stab _ _ _ _ hp km
      | succ m => rw [q] at hy; simp at hy
  · rintro H' ⟨S', e, vs, hl, hD, hv⟩
    exact done vs H' hl hv S' e hD
theorem q_ifDraw {α : Type} {tu tz : TS} {D : Ends} {σ : L2.St} {H : Hp} {st c : Addr} {m : Int} (f : α → L2.St) (C : α → Hp → Prop) (hs : σ[1]? = some (some (.ref st))) (S : StAt H st c) (hm : 0 < m) (hm2 : m < 1073741824) (key : ∀ x H1, C x H1 → tz D (f x) H1)
    (h1 : ∀ H2, StAt H2 st c → Kp st H H2 → ∀ nx : L2.St → Hp → Prop, (∀ x H3, C x H3 → nx (f x) H3) → tu { D with nx := nx } σ H2) (h2 : ∀ H2, StAt H2 st c → Kp st H H2 → ∃ x, f x = σ ∧ C x H2) :
    tSeq (tIfS (tTest (tOp rEq (tCall spTake [] E0 (tCons (tVar 1) (tCons (tC (.int m)) tNil))) (tC (.int 0)))) tu tNext) tz D σ H :=
  ⟨_, hs, st, c, m, rfl, S, hm, hm2, fun d H2 _ _ S2 k2 => ⟨rfl, _, rfl, ite2 (fun _ => h1 H2 S2 k2 _ key) (fun _ => by
    obtain ⟨x, e, hc⟩ := h2 H2 S2 k2
    have := key x H2 hc
    rw [e] at this
    exact this)⟩⟩
theorem outK_made : ∀ {ls : List Str} {i : Nat} {gs fs : List (Str × List Str)} {wy nm : Str}, outK i gs ls = .made fs wy nm → gs.length ≤ 3 → (∀ z ∈ gs, FldOk z.1 z.2) → fs.length ≤ 3 ∧ ∀ z ∈ fs, FldOk z.1 z.2
  | [], _, _, _, _, _, h, _, _ => nomatch h
  | [_], _, _, _, _, _, h, _, _ => nomatch h
  | l :: l2 :: r, i, gs, fs, wy, nm, h, h3, hok => by
    have h : (match fieldOf l with
      | some z => if gs.length = 3 then OutK.text (i + 1) else outK (i + 1) (gs ++ [z]) (l2 :: r)
      | none => match showOf l with
        | some y => if gs = [] then .text (i + 1) else if l2 :: r = [("" : Str)] then ruleDue gs y.1 y.2 else .text (i + 2)
        | none => .text (i + 1)) = .made fs wy nm := h
    cases hf : fieldOf l with
    | some z =>
      rw [hf] at h
      have h : (if gs.length = 3 then OutK.text (i + 1) else outK (i + 1) (gs ++ [z]) (l2 :: r)) = .made fs wy nm := h
      split at h
      · cases h
      · refine outK_made h (by rw [List.length_append]; have h1 : [z].length = 1 := rfl; omega) fun y hy => ?_
        rcases List.mem_append.mp hy with hy | hy
        · exact hok y hy
        · rw [List.mem_singleton.mp hy]; exact (fieldOf_some hf).1
    | none =>
      rw [hf] at h
      have h : (match showOf l with
        | some y => if gs = [] then OutK.text (i + 1) else if l2 :: r = [("" : Str)] then ruleDue gs y.1 y.2 else .text (i + 2)
        | none => .text (i + 1)) = .made fs wy nm := h
      cases hs : showOf l with
      | none => rw [hs] at h; cases h
      | some y =>
        rw [hs] at h
        have h : (if gs = [] then OutK.text (i + 1) else if l2 :: r = [("" : Str)] then ruleDue gs y.1 y.2 else .text (i + 2)) = .made fs wy nm := h
        split at h
        · cases h
        · split at h
          · unfold ruleDue at h
            split at h
            · cases h
            · split at h
              · cases h
                exact ⟨h3, hok⟩
              · cases h
          · cases h
theorem outT_made {x : Str} {fs : List (Str × List Str)} {wy nm : Str} (h : outT x = .made fs wy nm) : fs.length ≤ 1000 ∧ ∀ z ∈ fs, z.2.length ≤ 1000 := by
  have := outK_made h (by decide) (fun z hz => nomatch hz)
  exact ⟨by omega, fun z hz => by rw [(this.2 z hz).len]; decide⟩
theorem StAt.extn {H H' : Hp} {st c : Addr} (S : StAt H st c) (e : LamX.ExtN H H') : StAt H' st c := by
  obtain ⟨⟨n, l, b, h⟩, ⟨ns, h2, h3⟩, ne⟩ := S
  exact ⟨⟨n, l, b, e _ _ h (fun _ z => by cases z)⟩, ⟨ns, e _ _ h2 (fun _ z => by cases z), h3⟩, ne⟩
theorem Tabs_kp {T : List (Addr × Str)} {H H' : Hp} {st : Addr} {xs : List V} (t : LamX.Tabs T H) (e : Kp st H H') (hs : H st = some (.lst xs)) : LamX.Tabs T H' := fun p hp => by
  obtain ⟨ps, h1, h2, h3⟩ := t p hp
  refine ⟨ps, e _ _ (ne_of h1 hs (by intro z; cases z)) h1, h2, fun pos cv hc => ?_⟩
  obtain ⟨c, e1, e2⟩ := h3 pos cv hc
  exact ⟨c, e1, e _ _ (ne_of e2 hs (by intro z; cases z)) e2⟩
theorem Tabs_st {T : List (Addr × Str)} {H H' : Hp} {st c : Addr} (t : LamX.Tabs T H) (e : Kp st H H') (S : StAt H st c) : LamX.Tabs T H' := let ⟨⟨_, _, _, h⟩, _, _⟩ := S; Tabs_kp t e h
/-! ### the written texts -/
def lone0 : Str := "field a read no jump no anew no give no take no exact\n"
def long9 : Str := "field abcdefghi read no jump no anew no give no take no exact\nshow stay a\n"
theorem lone_eq : bodyF ("a", ["no", "no", "no", "no", "no", "exact"]) ++ ("\n" : Str) = lone0 := by decide +kernel
theorem long_eq : bodyF ("abcdefghi", ["no", "no", "no", "no", "no", "exact"]) ++ ("\nshow stay a\n" : Str) = long9 := by decide +kernel
def texts7 : List Str := ["", "\n", "show stay a\n", lone0, repS lone0 3, repS lone0 4, lone0 ++ "show stay b\n"]
def texts1 : List Str := [repS lone0 2 ++ "show stay a\n"]
def texts2 : List Str := [long9, lone0 ++ "show stay abcdefghi\n"]
def texts3 : List Str := [lone0 ++ "show stay a\n\n", repS lone0 2 ++ "no\n", (lone0 ++ "show stay a\n") ++ lone0]
def texts13 : List Str := (texts7 ++ texts1) ++ (texts2 ++ texts3)
def outs13 : List OutK := [.text 1, .text 1, .text 1, .text 2, .text 4, .text 4, .noshow, .dup 1, .text 1, .text 2, .text 3, .text 3, .text 3]
theorem texts_out : texts13.map outT = outs13 := by decide +kernel
theorem texts_ok : ∀ x ∈ texts13, x.length ≤ 900 := by decide +kernel
theorem texts_tx : ∀ x ∈ texts13, TxOk x := fun x hx => by
  have h := texts_ok x hx
  exact ⟨by omega, fun l hl => Nat.le_trans (lines_len x l hl) h⟩
theorem lone_len : lone0.length = 54 := by decide +kernel
theorem rep_len2 : (repS lone0 2).length ≤ 500 := by decide +kernel
section
variable {K : PySem.W.Frag} {σ : L2.St} {H : Hp} {te ta tb : TE}
theorem ev_mulS {n : Nat} (h : Ev te σ H (.str lone0)) (h2 : 2 ≤ n) (hn : n ≤ 1000) : Ev (tOp rMulS te (tC (.int (n : Int)))) σ H (.str (repS lone0 n)) := fun H1 e Q q => h H1 e _ fun H2 e2 => ⟨lone0, n, rfl, rfl, h2, hn, by rw [lone_len]; decide, by rw [lone_len]; decide, q H2 e2⟩
/-- a list is told -/
def EvRL (te : TE) (σ : L2.St) (H : Hp) (xs : List V) : Prop := ∀ H1, Ex H H1 → ∀ Q : VK, (∀ p H2, Ex H1 H2 → H2 p = some (.lst xs) → Q (.ref p) H2) → te σ H1 Q
theorem erl_of {xs : List V} (h : EvL te σ H xs) : EvRL te σ H xs := fun H1 e Q q => h H1 e _ fun p H2 _ e2 h2 => q p H2 e2 h2
theorem erl_var {i : Nat} {p : Addr} {xs : List V} (h : σ[i]? = some (some (.ref p))) (hp : H p = some (.lst xs)) : EvRL (tVar i) σ H xs := fun H1 e Q q => ⟨_, h, q p H1 (Ex.refl _) (e _ _ hp)⟩
theorem el_catR {xs ys : List V} (h1 : EvRL ta σ H xs) (h2 : EvRL tb σ H ys) (hl : xs.length + ys.length ≤ 100000) : EvL (tOp rCat ta tb) σ H (xs ++ ys) := fun H1 e Q q => h1 H1 e _ fun p H2 e2 hp => h2 H2 (Ex.trans e e2) _ fun p' H3 e3 hp' =>
  ⟨p, p', xs, ys, rfl, rfl, e3 _ _ hp, hp', sz_of hl, fun r nr => q r _ (fresh_back (Ex.trans e2 e3) nr) ((e2.trans e3).trans (Ex.new nr)) upd_same⟩
end
theorem eu_rep5 {K : PySem.W.Frag} {σ : L2.St} {H : Hp} : EvU (tOp (rRepTA K) (tTup (tCons (tC (.str "no")) tNil)) (tC (.int 5))) σ H [.str "no", .str "no", .str "no", .str "no", .str "no"] := fun H1 e Q q =>
  eu_tup (vs := [.str "no"]) (ea_cons ev_c ea_nil) (by show 1 ≤ 100000; decide) H1 (Ex.refl _) _ fun p H2 np e2 hp => ⟨p, 5, _, rfl, rfl, SqT.of hp, by decide, by decide, by decide, fun h => absurd h (by rintro (h | h); cases h; cases h), fun _ r nr => q r _ (fresh_back e2 nr) (Ex.trans e2 (Ex.new nr)) upd_same⟩
theorem er_up {te : TE} {σ : L2.St} {H : Hp} {d : Nat} {s : Sh} (h : EvR te σ H d s) : EvR te σ H (d + 1) s := fun H1 e Q q => h H1 e _ fun v H2 e2 r => q v H2 e2 r.up
theorem er_due {te : TE} {σ : L2.St} {H : Hp} {x : Str} (h : ∀ H1, Ex H H1 → Ev te σ H1 (.str x)) (hx : TxOk x) (hc : OkC x) : EvR (tCall spDue24 [] E0 (tCons te tNil)) σ H 4 (outSh (outT x)) := fun H1 e Q q => h H1 e H1 (Ex.refl _) _ fun H2 e2 => ⟨x, rfl, hx, hc, fun v H3 e3 r => q v H3 (Ex.trans e2 e3) r⟩
end Lm

namespace Lm
open PySem L2 Evl RZ TL ClX LamX
abbrev ql24 : Str := "law.<locals>.<lambda>"
def spLawT (K : PySem.W.Frag) (T1 : Addr) : Sp := fun vs H Q _ => ∃ (a : Addr) (ns : List Int), vs = [.ref a] ∧ SqL K H a (ns.map V.int) ∧ ns.length ≤ 63 ∧ H T1 = some (.tbl #[]) ∧ ∀ H', Q (.bl true) H'
/-- a classmethod that may raise -/
structure CmOkX (P : Program) (w : World) (K : PySem.W.Frag) (mg : Str → Option Value) (base : Heap) (k : Nat) (C : Addr) (mc : Value) (m : Str) (p g : Addr) (fd : FuncData) (ps : List Str) (sp : Sp) : Prop where
  ok : FnOk P w K mg base (L2.CX P w) k g fd ps sp
  bd : L2.Binds K fd ps []
  rd : CRead K C mc
  cm : CMet K C mc m p g
theorem CmOkX.raw {P : Program} {w : World} {K : PySem.W.Frag} {mg : Str → Option Value} {base : Heap} {k : Nat} {C : Addr} {mc : Value} {m : Str} {p g : Addr} {fd : FuncData} {ps : List Str} {sp : Sp} (D : CmOkX P w K mg base k C mc m p g fd ps sp) : FnR P w K mg base (L2.CX P w) k g (fun vs H Q E => sp (vs ++ []) H Q E) := D.ok.raw D.bd .nil
def Mj : Nat → Nat
  | 0 => 144
  | 1 => 299
  | _ => 609
def Nj : Nat → Nat
  | 0 => 725
  | 1 => 881
  | _ => 1192
section
variable {P : Program} {w : World} {K : PySem.W.Frag} {mg : Str → Option Value} {base : Heap} {f : Addr} {fd : FuncData}
abbrev s_law : Stmt := top 43
theorem sc_law : FnScope ["_law_script", "_law_state", "_law_turn", "_law_rows", "_law_shown", "_law_text_here", "_law_k", "_law_again", "_law_found", "_law_lone", "_law_texts", "_law_long", "_law_due_here", "_law_called", "_law_row"] ["_law_script"] (defScope s_law) := ⟨rfl, rfl, rfl, by decide +kernel, rfl, by decide +kernel, by decide +kernel⟩
theorem ok_law {CR CB CU c0 T1 g fA fB mF mS pO f1 f2 f3 f4 f5 f6 f7 f8 f9 : Addr} {fdg dF dS d1 d2 d3 d4 d5 d6 d7 d8 d9 : FuncData} (F : L2.Fun K "law" "law" s_law f fd) (hc : fd.code = Value.ref c0) (T : Blt mg) (T' : RlIsi K mg CR)
    (Fg : L2.Fun K "_law_tried" "_law_tried" s_tried g fdg) (hbg : L2.Binds K fdg ["_law_ask"] []) (hmg : mg "_law_tried" = some (.ref g)) (TTx : ErrF K mg "BadText" CB fA "line") (TRl : ErrF2 K mg "BadRule" CU fB "index" "reason") (hsub : PySem.W.subIn K (.ref CU) (.ref CB) = some false) (TB : LamX.TabB base mg c0 T1)
    (hmT : (T1, ql24) ∈ [(T1, ql24)]) (hu : ∀ p ∈ [(T1, ql24)], p.1 = T1 → p.2 = ql24)
    (D_fresh : DefOk P w K mg base 1 "_law_fresh" f1 d1 ["_law_script"] (spFresh K)) (D_take : DefOk P w K mg base 2 "_law_take" f2 d2 ["_law_state", "_law_many"] spTake) (D_rule : DefOk P w K mg base 5 "_law_rule" f3 d3 ["_law_state"] spRule) (D_text : DefOk P w K mg base 2 "_law_text" f4 d4 ["_law_rows", "_law_shown"] spTextL)
    (D_field : DefOk P w K mg base 4 "_law_field" f5 d5 ["_law_state", "_law_called"] spField) (D_line : DefOk P w K mg base 1 "_law_line" f6 d6 ["_law_row"] spLineL) (D_spoilt_text : DefOk P w K mg base 4 "_law_spoilt_text" f7 d7 ["_law_state", "_law_text_here"] spSpoil24)
    (D_same : DefOk P w K mg base 5 "_law_same" f8 d8 ["_law_found", "_law_due_here"] (spSame 5)) (D_due : DefOk P w K mg base 3 "_law_due" f9 d9 ["_law_text_here"] spDue24)
    (M_Rule_fields : MetOk P w K mg base 1 CR "fields" mF dF ["self"] (spRlFields CR)) (M_Rule_show : MetOk P w K mg base 1 CR "show" mS dS ["self"] (spRlShow CR)) {fO : Addr} {dO : FuncData} (M_of_text : CmOkX P w K mg base 6 CR (.type "type") "of_text" pO fO dO ["cls", "text"] (spTextAny CR CB CU)) :
    FnOk P w K mg base CX0 10 f fd ["_law_script"] (spLawT K T1) := by
  refine okC F hc sc_law (fun vs H Q E h => ?_) (fun A outer s H vs Q E hr h => ?_)
  · obtain ⟨a, ns, rfl, _⟩ := h
    rfl
  · obtain ⟨a, ns, rfl, hS, hl, hT1, k⟩ := h
    have D_room : Room 4 _ := hr.mono (by decide)
    refine ⟨_, (pss_cons (ps_set (i := 1) sc_law.nd rfl (by first | exact Or.inl rfl | exact Or.inr rfl) (pe_d D_fresh (hr.mono (by decide)) (pa_cons (pv 0) pa_nil)))
        (pss_cons (ps_for PassesOwn.never rfl (pi_range1 rfl T.b_range (pa_cons pe_int pa_nil)) (pg_name (i := 2) sc_law.nd rfl (by first | exact Or.inl rfl | exact Or.inr rfl)) (pss_cons (ps_asg (pe_d D_rule (hr.mono (by decide)) (pa_cons (pv 1) pa_nil)) (pg_tup rfl (pgs_cons (pg_name (i := 3) sc_law.nd rfl (by first | exact Or.inl rfl | exact Or.inr rfl)) (pgs_cons (pg_name (i := 4) sc_law.nd rfl (by first | exact Or.inl rfl | exact Or.inr rfl)) pgs_nil))))
        (pss_cons (ps_set (i := 5) sc_law.nd rfl (by first | exact Or.inl rfl | exact Or.inr rfl) (pe_d D_text (hr.mono (by decide)) (pa_cons (pv 3) (pa_cons (pv 4) pa_nil))))
        (pss_cons (ps_if (pt_cmpR op_eq (pe_d D_take (hr.mono (by decide)) (pa_cons (pv 1) (pa_cons pe_int pa_nil))) pe_int (nomark _)) (pss_cons (ps_setLc (i := 3) (own := [("_law_called", 13)]) (g := gName 13) (tt := tYes) (te := (tCall spField [] E0 (tCons (tVar 1) (tCons (tVar 13) tNil)))) rfl sc_law.nd rfl rfl (sw_true rfl rfl rfl (by decide +kernel)) (pi_tup (pe_tup (pa_cons pe_str (pa_cons pe_str (pa_cons pe_str (pa_cons pe_str pa_nil)))))) (blkOk_by (own := [("_law_called", 13)]) (by kernel_rfl)) (fun _ _ _ _ _ => (pg_name (i := 13) sc_law.nd rfl (by first | exact Or.inl rfl | exact Or.inr rfl))) (fun _ _ _ _ _ => pts_nil) (fun _ _ _ _ _ => by exact (pe_d D_field (hr.mono (by decide)) (pa_cons (pv 1) (pa_cons (pv 13) pa_nil)))))
        (pss_one (ps_set (i := 5) sc_law.nd rfl (by first | exact Or.inl rfl | exact Or.inr rfl) (pe_op op_add_str (pe_join pe_str (pe_lc (own := [("_law_row", 14)]) (g := gName 14) (tt := tYes) (te := (tOp rAddS (tCall spLineL [] E0 (tCons (tVar 14) tNil)) (tC (.str "\n")))) rfl sc_law.nd (pi_list (pv 3)) (blkOk_by (own := [("_law_row", 14)]) (by kernel_rfl)) (fun _ _ _ _ _ => (pg_name (i := 14) sc_law.nd rfl (by first | exact Or.inl rfl | exact Or.inr rfl))) (fun _ _ _ _ _ => pts_nil) (fun _ _ _ _ _ => by exact (pe_op op_add_str (pe_d D_line (hr.mono (by decide)) (pa_cons (pv 14) pa_nil)) pe_str)))) pe_str)))) pss_nil)
        (pss_cons (ps_for PassesOwn.never rfl (pi_range1 rfl T.b_range (pa_cons (pe_d D_take (hr.mono (by decide)) (pa_cons (pv 1) (pa_cons pe_int pa_nil))) pa_nil)) (pg_name (i := 6) sc_law.nd rfl (by first | exact Or.inl rfl | exact Or.inr rfl)) (pss_one (ps_set (i := 5) sc_law.nd rfl (by first | exact Or.inl rfl | exact Or.inr rfl) (pe_d D_spoilt_text (hr.mono (by decide)) (pa_cons (pv 1) (pa_cons (pv 5) pa_nil))))))
        (pss_cons (ps_if (pt_cmpR op_eq (pe_d D_take (hr.mono (by decide)) (pa_cons (pv 1) (pa_cons pe_int pa_nil))) pe_int (nomark _)) (pss_one (ps_set (i := 5) sc_law.nd rfl (by first | exact Or.inl rfl | exact Or.inr rfl) (pe_slice sl_str (pv 5) po_none (po_some (pe_un un_neg pe_int))))) pss_nil)
        (pss_one (ps_for PassesOwn.never rfl (pi_range1 rfl T.b_range (pa_cons pe_int pa_nil)) (pg_name (i := 7) sc_law.nd rfl (by first | exact Or.inl rfl | exact Or.inr rfl)) (pss_cons (ps_set (i := 8) sc_law.nd rfl (by first | exact Or.inl rfl | exact Or.inr rfl) (pe_tried (k := 7) Fg hbg hmg TTx TRl hsub M_Rule_fields M_Rule_show TB rfl hmT hu (hr.mono (by decide)) (fun A outer s H E f c2 hr2 => by exact (pe_cmeth (pe_glob (v := .ref CR) rfl T'.g_Rule rfl) M_of_text.rd M_of_text.cm M_of_text.raw (hr2.mono (by decide)) lam_passes (pa_cons (pv 5) pa_nil))) (LamX.lamS_by (by kernel_rfl))))
        (pss_one (ps_if (pt_not (pt_val (pe_d D_same (hr.mono (by decide)) (pa_cons (pv 8) (pa_cons (pe_d D_due (hr.mono (by decide)) (pa_cons (pv 5) pa_nil)) pa_nil))))) (pss_one (ps_ret pe_bl)) pss_nil)))))))))))
        (pss_cons (ps_set (i := 9) sc_law.nd rfl (by first | exact Or.inl rfl | exact Or.inr rfl) (pe_op op_add_str (pe_d D_line (hr.mono (by decide)) (pa_cons (pe_tup (pa_cons pe_str (pa_cons pe_str (pa_cons pe_str (pa_cons pe_str (pa_cons pe_str (pa_cons pe_str (pa_cons pe_str pa_nil)))))))) pa_nil)) pe_str))
        (pss_cons (ps_set (i := 8) sc_law.nd rfl (by first | exact Or.inl rfl | exact Or.inr rfl) (pe_lst pa_nil))
        (pss_cons (ps_set (i := 10) sc_law.nd rfl (by first | exact Or.inl rfl | exact Or.inr rfl) (pe_lst (pa_cons pe_str (pa_cons pe_str (pa_cons pe_str (pa_cons (pv 9) (pa_cons (pe_op op_mulS (pv 9) pe_int) (pa_cons (pe_op op_mulS (pv 9) pe_int) (pa_cons (pe_op op_add_str (pv 9) pe_str) pa_nil)))))))))
        (pss_cons (ps_set (i := 11) sc_law.nd rfl (by first | exact Or.inl rfl | exact Or.inr rfl) (pe_lst (pa_cons (pe_op op_add_str (pe_d D_line (hr.mono (by decide)) (pa_cons (pe_op op_catT (pe_op op_catT (pe_tup (pa_cons pe_str pa_nil)) (pe_op op_repTA (pe_tup (pa_cons pe_str pa_nil)) pe_int)) (pe_tup (pa_cons pe_str pa_nil))) pa_nil)) pe_str) (pa_cons (pe_op op_add_str (pv 9) pe_str) pa_nil))))
        (pss_cons (ps_set (i := 11) sc_law.nd rfl (by first | exact Or.inl rfl | exact Or.inr rfl) (pe_op op_cat (pv 11) (pe_lst (pa_cons (pe_op op_add_str (pv 9) pe_str) (pa_cons (pe_op op_add_str (pe_op op_mulS (pv 9) pe_int) pe_str) (pa_cons (pe_op op_add_str (pe_op op_add_str (pv 9) pe_str) (pv 9)) pa_nil))))))
        (pss_cons (ps_for PassesOwn.never rfl (pi_list (pe_op op_cat (pe_op op_cat (pv 10) (pe_lst (pa_cons (pe_op op_add_str (pe_op op_mulS (pv 9) pe_int) pe_str) pa_nil))) (pv 11))) (pg_name (i := 5) sc_law.nd rfl (by first | exact Or.inl rfl | exact Or.inr rfl)) (pss_one (ps_expr (pe_bm PySem.F.plainAttrs_list PySem.F.slot_list_append PySem.F.type_list_append mt_append (pv 8) (pa_cons (pe_tried (k := 7) Fg hbg hmg TTx TRl hsub M_Rule_fields M_Rule_show TB rfl hmT hu (hr.mono (by decide)) (fun A outer s H E f c2 hr2 => by exact (pe_cmeth (pe_glob (v := .ref CR) rfl T'.g_Rule rfl) M_of_text.rd M_of_text.cm M_of_text.raw (hr2.mono (by decide)) lam_passes (pa_cons (pv 5) pa_nil))) (LamX.lamS_by (by kernel_rfl))) pa_nil)))))
        (pss_cons (ps_set (i := 12) sc_law.nd rfl (by first | exact Or.inl rfl | exact Or.inr rfl) (pe_lst (pa_cons (pe_tup (pa_cons pe_str (pa_cons pe_int pa_nil))) (pa_cons (pe_tup (pa_cons pe_str (pa_cons pe_int pa_nil))) (pa_cons (pe_tup (pa_cons pe_str (pa_cons pe_int pa_nil))) (pa_cons (pe_tup (pa_cons pe_str (pa_cons pe_int pa_nil))) (pa_cons (pe_tup (pa_cons pe_str (pa_cons pe_int pa_nil))) (pa_cons (pe_tup (pa_cons pe_str (pa_cons pe_int pa_nil))) (pa_cons (pe_tup (pa_cons pe_str (pa_cons pe_non (pa_cons pe_str pa_nil)))) pa_nil)))))))))
        (pss_one (ps_ret (pe_d D_same (hr.mono (by decide)) (pa_cons (pv 8) (pa_cons (pe_op op_cat (pe_op op_cat (pv 12) (pe_lst (pa_cons (pe_tup (pa_cons pe_str (pa_cons pe_int (pa_cons pe_str pa_nil)))) (pa_cons (pe_tup (pa_cons pe_str (pa_cons pe_int pa_nil))) (pa_cons (pe_tup (pa_cons pe_str (pa_cons pe_int pa_nil))) pa_nil))))) (pe_op op_rep (pe_lst (pa_cons (pe_tup (pa_cons pe_str (pa_cons pe_int pa_nil))) pa_nil)) pe_int)) pa_nil)))))))))))))), ?_⟩
    refine ⟨_, rfl, a, ns, rfl, hS, hl, fun st c H0 nst nc e0 S0 => ?_⟩
    have TS0 : Tabs [(T1, ql24)] H0 := fun p hp => by rw [List.mem_singleton.mp hp]; exact TabS.nil (e0 _ _ hT1)
    -- what is asked of a text
    have asks : ∀ {σ : L2.St} {H : Hp} {y : Str}, σ[5]? = some (some (.str y)) → TxOk y → TrL [(T1, ql24)] (tLam [(T1, ql24)] (TTtr (Cl24 CB CU) (pMade CR)) fun E => tCMeth CR (spTextAny CR CB CU) E (tC (.ref CR)) (tCons (tVar 5) tNil)) σ H 4 (outSh (outT y)) := fun h5 htx => tr_out (CR := CR) (fun fs wy nm ho => outT_made ho) fun H1 e1 E R hW => ⟨rfl, _, h5, _, rfl, htx, hW⟩
    refine ⟨_, rfl, by decide, by decide, for_range (lo := 0) (n := 12) (fun i σ' H' => ∃ v2 v3 v4 v5 v6 v7 v8 v9 v10 v11 v12 v13 v14 : Option V, σ' = [some (.ref a), some (.ref st), v2, v3, v4, v5, v6, v7, v8, v9, v10, v11, v12, v13, v14] ∧ StAt H' st c ∧ Tabs [(T1, ql24)] H')
      ⟨none, none, none, none, none, none, none, none, none, none, none, none, none, rfl, S0, TS0⟩ ?_ ?_⟩
    · rintro i0 σ' H hi0 ⟨v2, v3, v4, v5, v6, v7, v8, v9, v10, v11, v12, v13, v14, rfl, S, TS⟩
      dsimp only [gName, List.set]
      refine ⟨_, rfl, st, c, rfl, S, fun t rp sp xs fs wy nm i H1 nt S1 k1 ht nrp hrp hR hf hsp hw hi hall => ⟨t, _, rfl, SqT.of ht, rfl, _, _, rfl, _, _, rfl, rfl, ?_⟩⟩
      have TS1 := Tabs_st TS k1 S
      dsimp only [List.set]
      refine q_asg (v := .str (textR fs wy nm)) (fun H2 e2 Q' q' => ⟨_, rfl, _, rfl, _, _, fs, wy, nm, rfl, ⟨rp, xs, rfl, e2 _ _ hrp, hR.same e2⟩, ⟨sp, rfl, e2 _ _ hsp⟩, hf, hw, nm_word hf hi, fun H3 e3 => q' H3 e3⟩) fun H2 e2 => ?_
      dsimp only [List.set]
      have S2 := S1.same e2
      have TS2 := TS1.ext e2
      have g0 := gt_text hf hw (nm_word hf hi)
      refine q_ifDraw (fun z : V × Str => [some (.ref a), some (.ref st), some (.int ((0 : Int) + (i0 : Int))), some z.1, some (.ref sp), some (.str z.2), v6, v7, v8, v9, v10, v11, v12, v13, v14]) (fun z H' => StAt H' st c ∧ Tabs [(T1, ql24)] H' ∧ GT 144 725 z.2) rfl S2 (by decide) (by decide) ?_ (fun H3 S3 k3 nx hnx => ?_) (fun H3 S3 k3 => ⟨(.ref rp, textR fs wy nm), rfl, S3, Tabs_st TS2 k3 S2, g0⟩)
      · rintro ⟨v3', y⟩ H3 ⟨S3, TS3, g3⟩
        have g3 : GT 144 725 y := g3
        dsimp only
        -- spoilt up to twice
        refine ⟨_, rfl, st, c, 3, rfl, S3, by decide, by decide, fun d H4 d0 d3 S4 k4 => ⟨_, rfl, by omega, by omega, for_range (lo := 0) (n := d.toNat) (fun j σ' H' => ∃ (z : Str) (u6 : Option V), σ' = [some (.ref a), some (.ref st), some (.int ((0 : Int) + (i0 : Int))), some v3', some (.ref sp), some (.str z), u6, v7, v8, v9, v10, v11, v12, v13, v14] ∧ StAt H' st c ∧ Tabs [(T1, ql24)] H' ∧ j ≤ 2 ∧ GT (Mj j) (Nj j) z) ⟨y, _, rfl, S4, Tabs_st TS3 k4 S3, by decide, g3⟩ ?_ ?_⟩⟩
        · rintro j σ' H5 hj ⟨z, u6, rfl, S5, TS5, hj2, g5⟩
          dsimp only [gName, List.set]
          have hj1 : j = 0 ∨ j = 1 := by omega
          have hb : Mj j ≤ 400 ∧ Nj j ≤ 5000 ∧ 2 * Mj j + 11 ≤ Mj (j + 1) ∧ Nj j + Mj j + 12 ≤ Nj (j + 1) := by
            rcases hj1 with rfl | rfl
            · decide
            · decide
          refine ⟨_, rfl, _, rfl, st, c, z, Mj j, rfl, S5, g5.sg, hb.1, Nat.le_trans g5.len hb.2.1, g5.okc, fun y' H6 q1 q2 q3 S6 k6 => ⟨y', _, rfl, S6, Tabs_st TS5 k6 S5, by omega, (gt_spoil g5 q1 q2 q3).mono hb.2.2.1 hb.2.2.2⟩⟩
        · rintro σ' H5 ⟨z, u6, rfl, S5, TS5, hj2, g5⟩
          have g5 : GT 609 1192 z := g5.mono (by
            have : d.toNat = 0 ∨ d.toNat = 1 ∨ d.toNat = 2 := by omega
            rcases this with h | h | h <;> rw [h] <;> decide) (by
            have : d.toNat = 0 ∨ d.toNat = 1 ∨ d.toNat = 2 := by omega
            rcases this with h | h | h <;> rw [h] <;> decide)
          dsimp only
          refine q_ifDraw (fun z : Str => [some (.ref a), some (.ref st), some (.int ((0 : Int) + (i0 : Int))), some v3', some (.ref sp), some (.str z), u6, v7, v8, v9, v10, v11, v12, v13, v14]) (fun z H' => StAt H' st c ∧ Tabs [(T1, ql24)] H' ∧ GT 609 1192 z) rfl S5 (by decide) (by decide) ?_ (fun H6 S6 k6 nx hnx => ?_) (fun H6 S6 k6 => ⟨z, rfl, S6, Tabs_st TS5 k6 S5, g5⟩)
          · rintro z H6 ⟨S6, TS6, g6⟩
            have htx := gt_tx g6 (by decide) (by decide)
            refine ⟨_, rfl, by decide, by decide, for_range (lo := 0) (n := 2) (fun j σ' H' => ∃ (u7 u8 : Option V), σ' = [some (.ref a), some (.ref st), some (.int ((0 : Int) + (i0 : Int))), some v3', some (.ref sp), some (.str z), u6, u7, u8, v9, v10, v11, v12, v13, v14] ∧ StAt H' st c ∧ Tabs [(T1, ql24)] H') ⟨_, _, rfl, S6, TS6⟩ ?_ ?_⟩
            · rintro j σ' H7 hj ⟨u7, u8, rfl, S7, TS7⟩
              dsimp only [gName, List.set]
              refine asks rfl htx H7 (ExtN.refl _) TS7 _ fun v H8 e8 TS8 r8 => ?_
              have S8 := S7.extn e8
              dsimp only [List.set]
              exact s_when (b := false) (et_is (et_not (et_B (ev_sameR (d := 5) (er_up (er_var (i := 8) rfl r8.rep)) (er_up (er_due (fun H1 e => ev_var rfl) htx g6.okc))))) rfl) (fun z => nomatch z) fun _ H9 e9 => ⟨_, _, rfl, S8.same e9, TS8.ext e9⟩
            · rintro σ' H7 ⟨u7, u8, rfl, S7, TS7⟩
              exact ⟨_, _, _, _, _, _, _, _, _, _, _, _, _, rfl, S7, TS7⟩
          · refine s_asg (v := .str (cutS z none (some (-1)))) (ev_slS (z := z) (ev_var rfl) eo_none (eo_some ev_m1) (by have := g5.len; omega)) fun H7 e7 => ?_
            exact hnx (cutS z none (some (-1))) H7 ⟨S6.same e7, (Tabs_st TS5 k6 S5).ext e7, gt_cut g5⟩
      · -- four fields
        have TS3 := Tabs_st TS2 k3 S2
        refine ⟨by show 4 ≤ sizeLine; decide, fun tp ntp => ⟨tp, rfl, ⟨[.str "a", .str "b", .str "k", .str "a"], SqT.of upd_same⟩, fun D nD => ?_⟩⟩
        have e4 := Same.upd' ntp (o := .tup ((["a", "b", "k", "a"] : List Str).map V.str))
        have htp : (upd H3 tp (.tup ((["a", "b", "k", "a"] : List Str).map V.str))) tp = some (.tup ((["a", "b", "k", "a"] : List Str).map V.str)) := upd_same
        have S4 := S3.same e4
        have TS4 := TS3.ext e4
        have nD : (upd H3 tp (.tup ((["a", "b", "k", "a"] : List Str).map V.str))) D = none := nD
        have ntps : tp ≠ st := (S3.of_new ntp).1
        show ∃ W : Nat → Nat → Hp → Prop, (∃ m, W 0 m (upd (upd H3 tp (.tup ((["a", "b", "k", "a"] : List Str).map V.str))) D (.lst []))) ∧ _
        generalize upd H3 tp (.tup ((["a", "b", "k", "a"] : List Str).map V.str)) = H4 at e4 htp S4 TS4 nD ⊢
        have hw4 : ∀ x ∈ (["a", "b", "k", "a"] : List Str), isW x = true := by decide +kernel
        refine lc_drawT (K := K) (xs := (["a", "b", "k", "a"] : List Str).map V.str) (fun i v H' => ∃ p nm r, v = .ref p ∧ (["a", "b", "k", "a"] : List Str)[i]? = some nm ∧ H' p = some (.tup ((nm :: r).map V.str)) ∧ FldOk nm r) S4 nD ntps htp (by decide) (fun i v Ha Hb h e => ?_) (fun i x H' hx S' k' hacc Q' q' => ?_) (fun vs H' hl hv S' k' hD => ?_)
        · obtain ⟨p, nm, r, h1, h2, h3, h4⟩ := h
          exact ⟨p, nm, r, h1, h2, e _ _ h3 (by intro _ xs z; cases z), h4⟩
        · obtain ⟨z, hz, rfl⟩ := map_inv1 hx
          exact ⟨_, rfl, _, rfl, st, c, z, rfl, S', hw4 z (List.mem_of_getElem? hz), fun p r H7 np S7 k7 hp hf => q' _ H7 ⟨p, z, r, rfl, hz, hp, hf⟩ S7 k7⟩
        · obtain ⟨gs, hR, hfs, hok⟩ := rows_of (["a", "b", "k", "a"] : List Str) vs (by rw [hl]; rfl) hv
          have lf : gs.length = 4 := by
            have := congrArg List.length hfs
            rw [List.length_map] at this
            exact this
          have TS' := Tabs_st TS4 k' S4
          have g4 := gt_four hok lf
          obtain ⟨ts, hxs, lts, hts⟩ := id hR
          have hzip : vs = (ts.zip gs).map fun z => V.ref z.1 := by
            have : (ts.zip gs).map (fun z => V.ref z.1) = ((ts.zip gs).map fun z => z.1).map V.ref := by rw [List.map_map]; rfl
            rw [this, List.map_fst_zip (by omega), hxs]
          have hln : (ts.zip gs).map (fun z => V.str (lineF z.2.1 z.2.2)) = (gs.map fun z => lineF z.1 z.2).map V.str := by
            have : (ts.zip gs).map (fun z => V.str (lineF z.2.1 z.2.2)) = ((ts.zip gs).map fun z => z.2).map (V.str ∘ fun z => lineF z.1 z.2) := by rw [List.map_map]; rfl
            rw [this, List.map_snd_zip (by omega), List.map_map]
          have mp := el_mapL (K := K) (σ := [some (.ref a), some (.ref st), some (.int ((0 : Int) + (i0 : Int))), some (.ref D), some (.ref sp), some (.str (textR fs wy nm)), v6, v7, v8, v9, v10, v11, v12, v13, v14]) (H := H') (te := tOp rAddS (tCall spLineL [] E0 (tCons (tVar 14) tNil)) (tC (.str "\n"))) (tl := tVar 3) (l := ts.zip gs) (f := fun z => V.ref z.1) (g := fun z => V.str (lineF z.2.1 z.2.2)) (j := 14) (ev_var rfl) (by rw [← hzip]; exact hD) (by rw [List.length_zip]; omega) fun z hz H2 e2 => by
            obtain ⟨n, hz'⟩ := List.mem_iff_getElem?.mp hz
            obtain ⟨g1, g2⟩ := List.getElem?_zip_eq_some.mp hz'
            have hfz := hok _ (List.mem_of_getElem? g2)
            have hlb := bodyF_len hfz
            exact ev_addS (a := bodyF z.2) (b := "\n") (fun H3 e3 Q q => ⟨_, rfl, z.1, z.2.1, z.2.2, rfl, Ex.trans e2 e3 _ _ (hts n _ _ g2 g1), hfz.len, wordsF_ten hfz, fun H4 e4 => q H4 e4⟩) ev_c (by have h1 : ("\n" : Str).length = 1 := rfl; rw [h1]; have : (bodyF z.2).length ≤ 144 := hlb; omega)
          rw [hln] at mp
          have hj := sum_leQ (l := (gs.map fun z => lineF z.1 z.2).map (·.length)) (m := 144) fun n hn => by
            obtain ⟨y, hy, rfl⟩ := List.mem_map.mp hn
            obtain ⟨z, hz, rfl⟩ := List.mem_map.mp hy
            exact lineF_len (hok z hz)
          rw [List.length_map, List.length_map, lf] at hj
          have h0 : ("" : Str).length = 0 := rfl
          have h12 : ("show stay a\n" : Str).length = 12 := rfl
          have hje := joinE_len (gs.map fun z => lineF z.1 z.2)
          refine s_asg (v := .str (Txt.join "" (gs.map fun z => lineF z.1 z.2) ++ "show stay a\n")) (ev_addS (ev_joinN ev_c mp (by rw [h0]; omega)) ev_c (by rw [h12]; omega)) fun H5 e5 => ?_
          exact hnx (.ref D, Txt.join "" (gs.map fun z => lineF z.1 z.2) ++ "show stay a\n") H5 ⟨S'.same e5, TS'.ext e5, g4⟩
    · rintro σ' H ⟨v2, v3, v4, v5, v6, v7, v8, v9, v10, v11, v12, v13, v14, rfl, S, TS⟩
      dsimp only
      have l1 : lone0.length = 54 := lone_len
      -- the written texts
      have elone : Ev (tOp rAddS (tCall spLineL [] E0 (tCons (tTup (tCons (tC (.str "a")) (tCons (tC (.str "no")) (tCons (tC (.str "no")) (tCons (tC (.str "no")) (tCons (tC (.str "no")) (tCons (tC (.str "no")) (tCons (tC (.str "exact")) tNil)))))))) tNil)) (tC (.str "\n"))) [some (.ref a), some (.ref st), v2, v3, v4, v5, v6, v7, v8, v9, v10, v11, v12, v13, v14] H (.str lone0) := by
        rw [← lone_eq]
        exact ev_addS (fun H1 e1 Q' q' => ⟨by show 7 ≤ sizeLine; decide, fun p np => ⟨p, "a", ["no", "no", "no", "no", "no", "exact"], rfl, upd_same, rfl, by decide +kernel, fun H2 e2 => q' H2 (Ex.trans (Ex.new np) e2)⟩⟩) ev_c (by decide +kernel)
      refine q_asg elone fun H1 e1 => ?_
      dsimp only [List.set]
      refine q_asgL (el_lst ea_nil (by decide)) fun fl H2 nfl e2 hfl => ?_
      dsimp only [List.set]
      have addS : ∀ {σ : L2.St} {H : Hp} {te : TE} {z y : Str}, Ev te σ H (.str z) → z.length + y.length ≤ 100000 → Ev (tOp rAddS te (tC (.str y))) σ H (.str (z ++ y)) := fun h hl => ev_addS h ev_c hl
      have S2 := (S.same e1).same e2
      have TS2 := (TS.ext e1).ext e2
      have hr2 := rep_len2
      refine q_asgL (xs := texts7.map V.str) (el_lst (ea_cons ev_c (ea_cons ev_c (ea_cons ev_c (ea_cons (ev_var rfl) (ea_cons (ev_mulS (n := 3) (ev_var rfl) (by decide) (by decide)) (ea_cons (ev_mulS (n := 4) (ev_var rfl) (by decide) (by decide)) (ea_cons (addS (ev_var rfl) (by rw [l1]; decide)) ea_nil))))))) (by show 7 ≤ 100000; decide)) fun p7 H3 np7 e3 hp7 => ?_
      dsimp only [List.set]
      have fl3 := e3 _ _ hfl
      have elong : Ev (tOp rAddS (tCall spLineL [] E0 (tCons (tOp (rCatT K) (tOp (rCatT K) (tTup (tCons (tC (.str "abcdefghi")) tNil)) (tOp (rRepTA K) (tTup (tCons (tC (.str "no")) tNil)) (tC (.int 5)))) (tTup (tCons (tC (.str "exact")) tNil))) tNil)) (tC (.str "\nshow stay a\n"))) [some (.ref a), some (.ref st), v2, v3, v4, v5, v6, v7, some (.ref fl), some (.str lone0), some (.ref p7), v11, v12, v13, v14] H3 (.str long9) := by
        rw [← long_eq]
        exact ev_addS (fun H1 e1 Q' q' => by
          refine (eu_catT (K := K) (xs := [.str "abcdefghi", .str "no", .str "no", .str "no", .str "no", .str "no"]) (ys := [.str "exact"]) (eu_catT (K := K) (xs := [.str "abcdefghi"]) (ys := [.str "no", .str "no", .str "no", .str "no", .str "no"]) (eu_tup (ea_cons ev_c ea_nil) (by show 1 ≤ 100000; decide)) eu_rep5 (fun z => nomatch z) (fun z => nomatch z) (by show 1 + 5 ≤ 100000; decide)) (eu_tup (ea_cons ev_c ea_nil) (by show 1 ≤ 100000; decide)) (fun z => nomatch z) (fun z => nomatch z) (by show 6 + 1 ≤ 100000; decide)) H1 (Ex.refl _) _ fun p H2 np e2 hp => ⟨p, "abcdefghi", ["no", "no", "no", "no", "no", "exact"], rfl, hp, rfl, by decide +kernel, fun H3 e3 => q' H3 (Ex.trans e2 e3)⟩) ev_c (by decide +kernel)
      refine q_asgL (xs := texts2.map V.str) (el_lst (ea_cons elong (ea_cons (addS (ev_var rfl) (by rw [l1]; decide)) ea_nil)) (by show 2 ≤ 100000; decide)) fun p2 H4 np2 e4 hp2 => ?_
      dsimp only [List.set]
      have fl4 := e4 _ _ fl3
      refine q_asgL (xs := (texts2 ++ texts3).map V.str) (by
        rw [List.map_append]
        exact el_catR (erl_var rfl hp2) (erl_of (el_lst (ea_cons (addS (ev_var rfl) (by rw [l1]; decide)) (ea_cons (addS (ev_mulS (n := 2) (ev_var rfl) (by decide) (by decide)) (by have h3 : ("no\n" : Str).length = 3 := rfl; rw [h3]; omega)) (ea_cons (ev_addS (addS (ev_var rfl) (by rw [l1]; decide)) (ev_var rfl) (by rw [len_appQ, l1]; decide)) ea_nil))) (by show 3 ≤ 100000; decide))) (by decide +kernel)) fun p5 H5 np5 e5 hp5 => ?_
      dsimp only [List.set]
      have fl5 := e5 _ _ fl4
      have hp75 := e5 _ _ (e4 _ _ hp7)
      have S5 := ((S2.same e3).same e4).same e5
      have TS5 := ((TS2.ext e3).ext e4).ext e5
      refine q_forNLn (xs := texts13.map V.str) (by
        have : texts13.map V.str = (texts7.map V.str ++ texts1.map V.str) ++ (texts2 ++ texts3).map V.str := by unfold texts13; rw [List.map_append, List.map_append]
        rw [this]
        exact el_catR (erl_of (el_catR (erl_var rfl hp75) (erl_of (el_lst (ea_cons (addS (ev_mulS (n := 2) (ev_var rfl) (by decide) (by decide)) (by have h3 : ("show stay a\n" : Str).length = 12 := rfl; rw [h3]; omega)) ea_nil) (by show 1 ≤ 100000; decide))) (by decide +kernel))) (erl_var rfl hp5) (by decide +kernel)) (fun p0 i σ' H' => ∃ (u5 : Option V) (vs : List V), σ' = [some (.ref a), some (.ref st), v2, v3, v4, u5, v6, v7, some (.ref fl), some (.str lone0), some (.ref p7), some (.ref p5), v12, v13, v14] ∧ Tabs [(T1, ql24)] H' ∧ H' p0 = some (.lst (texts13.map V.str)) ∧ p0 ≠ fl ∧ H' fl = some (.lst vs) ∧ RepA H' (fun a => a ≠ fl) 4 vs ((outs13.take i).map outSh)) (fun p0 H6 np0 e6 hp0 => ⟨_, [], rfl, TS5.ext e6, hp0, (fun z => by rw [z, fl5] at np0; cases np0), e6 _ _ fl5, RepA_nil⟩) (fun p0 i σ' H' _ ⟨_, _, _, _, h, _⟩ => SqL.of h) ?_ ?_
      · rintro p0 i x σ' H6 hx ⟨u5, vs, rfl, TS6, hp0, npf, hfl6, hA⟩
        obtain ⟨y, hy, rfl⟩ := map_inv1 hx
        have hyo : outs13[i]? = some (outT y) := by rw [← texts_out, List.getElem?_map, hy]; rfl
        have hi : i < 13 := (List.getElem?_eq_some_iff.mp hyo).1
        have lvs : vs.length = i := by rw [hA.1, List.length_map, List.length_take]; show min i 13 = i; omega
        dsimp only [List.set]
        refine ⟨_, rfl, .inl ⟨rfl, _, SqL.of hfl6⟩, asks rfl (texts_tx y (List.mem_of_getElem? hy)) H6 (ExtN.refl _) TS6 _ fun v H7 e7 TS7 r7 => ?_⟩
        have hfl7 := e7 _ _ hfl6 (fun _ z => by cases z)
        have hp07 := e7 _ _ hp0 (fun _ z => by cases z)
        refine ⟨fl, _, _, rfl, rfl, hfl7, sz_lt (by omega), _, vs ++ [v], rfl, Tabs_mutL TS7 hfl7, by rw [upd_ne npf]; exact hp07, npf, upd_same, ?_⟩
        have ht : (outs13.take (i + 1)).map outSh = (outs13.take i).map outSh ++ [outSh (outT y)] := by
          rw [List.take_succ, hyo, List.map_append]
          rfl
        rw [ht]
        refine RepA_snoc ⟨hA.1, fun j y' s' q1 q2 => (hA.2 j y' s' q1 q2).mono fun b o hb ho hn => ⟨hb, by rw [upd_ne hb]; exact e7 _ _ ho hn⟩⟩ (r7.mono fun b o hb ho hn => ?_)
        have hbl : b ≠ fl := fun z => hb _ (by rw [z]; exact hfl6)
        exact ⟨hbl, by rw [upd_ne hbl]; exact ho⟩
      · rintro p0 σ' H6 ⟨u5, vs, rfl, TS6, hp0, npf, hfl6, hA⟩
        have h13 : (texts13.map V.str).length = 13 := rfl
        rw [h13] at hA
        have hA : RepA H6 (fun a => a ≠ fl) 4 vs (outs13.map outSh) := hA
        have lvs : vs.length = 13 := hA.1
        have rfound : Rep H6 5 (.ref fl) (.l (outs13.map outSh)) := ⟨fl, vs, rfl, trivial, hfl6, hA.1, by omega, fun j y s' q1 q2 => (hA.2 j y s' q1 q2).rep⟩
        have et : ∀ {σ : L2.St} {H : Hp} (n : Int), EvS (tTup (tCons (tC (.str "text")) (tCons (tC (.int n)) tNil))) σ H 4 (.t [.v (.str "text"), .v (.int n)]) := fun n => es_tup (es_cons (es_s ev_c) (es_cons (es_i ev_c) es_nil)) (by show 2 ≤ 40000; decide)
        refine q_asgS (es_lst (es_cons (et 1) (es_cons (et 1) (es_cons (et 1) (es_cons (et 2) (es_cons (et 4) (es_cons (et 4) (es_cons (es_tup (es_cons (es_s ev_c) (es_cons (es_n ev_c) (es_cons (es_s ev_c) es_nil))) (by show 3 ≤ 40000; decide)) es_nil))))))) (by show 7 ≤ 40000; decide)) fun dv H7 e7 r7 => ?_
        dsimp only [List.set]
        have ed := es_cat (σ := [some (.ref a), some (.ref st), v2, v3, v4, u5, v6, v7, some (.ref fl), some (.str lone0), some (.ref p7), some (.ref p5), some dv, v13, v14]) (H := H7) (es_cat (es_var (i := 12) rfl r7) (es_lst (es_cons (es_tup (es_cons (es_s (ev_c (v := .str "rule"))) (es_cons (es_i (ev_c (v := .int 1))) (es_cons (es_s (ev_c (v := .str "name"))) es_nil))) (by show 3 ≤ 40000; decide)) (es_cons (et 1) (es_cons (et 2) es_nil))) (by show 3 ≤ 40000; decide)) (by show 7 + 3 ≤ 40000; decide)) (es_rep (n := 3) (es_lst (es_cons (et 3) es_nil) (by show 1 ≤ 40000; decide)) ev_c (by show 1 * 3 ≤ 40000; decide) (by decide)) (by show 10 + 3 ≤ 40000; decide)
        refine s_ret (ev_sameR (d := 5) (er_var (i := 8) rfl (rfound.ex e7)) ed.r) fun H8 e8 => k H8
end
end Lm

namespace Lm
open PySem L2 Evl RZ
theorem FnOk.or' {P : Program} {w : World} {K : PySem.W.Frag} {mg : Str → Option Value} {base : Heap} {CX : CXT} {k : Nat} {f : Addr} {fd : FuncData} {ps : List Str} {sp sp' : Sp} (A : FnOk P w K mg base CX k f fd ps sp) (B : FnOk P w K mg base CX k f fd ps sp') :
    FnOk P w K mg base CX k f fd ps (fun vs H Q E => sp vs H Q E ∨ sp' vs H Q E) :=
  ⟨fun vs H Q E h => h.elim (A.len vs H Q E) (B.len vs H Q E), fun C outer s H args us vs Q E hr he hb hv hs => hs.elim (A.run C outer s H args us vs Q E hr he hb hv) (B.run C outer s H args us vs Q E hr he hb hv)⟩
theorem sqt_of {K : PySem.W.Frag} {a : Addr} {od : Option Addr} {sl : Array (Option Value)} {its : Array Value} {n : Nat} {xs : List V} (h : K.lookup a = some ⟨.type "tuple", od, .seq its n, sl⟩) (hz : its.size ≤ 100) (hv : Vals xs its.toList) : ∀ H, SqT K H a xs := fun H => .inr ⟨_, its, n, h, rfl, rfl, sz_of (by omega), hv⟩
theorem cols_mkN {K : PySem.W.Frag} {C0 c1 c2 c3 c4 c5 c6 e1 e2 e3 e4 e5 e6 : Addr} (h0 : ∀ H, SqT K H C0 [.ref c1, .ref c2, .ref c3, .ref c4, .ref c5, .ref c6]) (h1 : ∀ H, SqT K H c1 [.str "read", .ref e1]) (h2 : ∀ H, SqT K H c2 [.str "jump", .ref e2]) (h3 : ∀ H, SqT K H c3 [.str "anew", .ref e3]) (h4 : ∀ H, SqT K H c4 [.str "give", .ref e4]) (h5 : ∀ H, SqT K H c5 [.str "take", .ref e5]) (h6 : ∀ H, SqT K H c6 [.str "kept", .ref e6])
    (g1 : ∀ H, SqT K H e1 [.str "no", .str "last", .str "raise", .str "row"]) (g2 : ∀ H, SqT K H e2 [.str "no", .str "last", .str "raise", .str "lower"]) (g3 : ∀ H, SqT K H e3 [.str "no", .str "least"]) (g4 : ∀ H, SqT K H e4 [.str "no", .str "last", .str "raise", .str "later"]) (g5 : ∀ H, SqT K H e5 [.str "no", .str "last", .str "raise", .str "later"]) (g6 : ∀ H, SqT K H e6 [.str "exact", .str "floored"]) : ColsN K C0 :=
  ⟨[(c1, "read", e1), (c2, "jump", e2), (c3, "anew", e3), (c4, "give", e4), (c5, "take", e5), (c6, "kept", e6)], rfl, h0, fun i z hz => by
    match i, hz with
    | 0, hz => cases hz; exact ⟨h1, rfl, _, rfl, g1⟩
    | 1, hz => cases hz; exact ⟨h2, rfl, _, rfl, g2⟩
    | 2, hz => cases hz; exact ⟨h3, rfl, _, rfl, g3⟩
    | 3, hz => cases hz; exact ⟨h4, rfl, _, rfl, g4⟩
    | 4, hz => cases hz; exact ⟨h5, rfl, _, rfl, g5⟩
    | 5, hz => cases hz; exact ⟨h6, rfl, _, rfl, g6⟩
    | n + 6, hz => simp at hz⟩
theorem tx_mk {K : PySem.W.Frag} {C : Addr} {Pr : String → Prop} (a : Pr "NoneType") (b : Pr "int") (c : Pr "str") (d : Pr "list") (e : Pr "tuple") : ∀ t ∈ ["NoneType", "int", "str", "list", "tuple"], Pr t := fun t h => by
  simp only [List.mem_cons, List.not_mem_nil, or_false] at h
  rcases h with rfl | rfl | rfl | rfl | rfl
  · exact a
  · exact b
  · exact c
  · exact d
  · exact e
theorem FnOk.x {P : Program} {w : World} {K : PySem.W.Frag} {mg : Str → Option Value} {base : Heap} {k : Nat} {f : Addr} {fd : FuncData} {ps : List Str} {sp : Sp} (A : FnOk P w K mg base CX0 k f fd ps sp) : FnOk P w K mg base (L2.CX P w) k f fd ps sp :=
  ⟨A.len, fun C outer s H args us vs Q E hr he hb hv hs => codeAny_mono (A.run C outer s H args us vs Q E hr he hb hv hs) fun r s' hq => by
    cases r with
    | error e => exact (show False from hq).elim
    | ok fl => cases fl <;> exact hq⟩
section
variable {P : Program} {w : World} {K : PySem.W.Frag} {mg : Str → Option Value} {base : Heap} {f : Addr} {fd : FuncData}
abbrev s_BadText_init : Stmt := inClass (top 10) 0
theorem sc_BadText_init : FnScope ["self", "line"] ["self", "line"] (defScope s_BadText_init) := ⟨rfl, rfl, rfl, by decide +kernel, rfl, by decide +kernel, by decide +kernel⟩
theorem ok_bad_text {C : Addr} (F : Fun K "__init__" "BadText.__init__" s_BadText_init f fd) (T : OexC K C) (hno : PySem.W.findIn K (.ref C) "line" = some none) : FnOk P w K mg base CX0 1 f fd ["self", "line"] (spErrI C "line") := by
  refine F.ok sc_BadText_init (fun vs H Q E h => ?_) (fun cdv A outer s H vs Q E hr h => ?_)
  · obtain ⟨a, v, rfl, _⟩ := h
    rfl
  · obtain ⟨a, v, rfl, ha, k⟩ := h
    refine ⟨_, (pss_one (ps_ost (pv 0) (pv 1) rfl)), ?_⟩
    exact ⟨_, rfl, _, rfl, a, C, rfl, T, hno, .inl ⟨ha, fun dx ndx hda => k dx ndx hda⟩⟩
end
end Lm

namespace Lm
open PySem L2
theorem all_mk {l : PySem.W.OpenLaw} {w : World} {K : PySem.W.Frag} {h : Heap} {mg : Str → Option Value} {fa C_Rule W0 C0 c1 c2 c3 c4 c5 c6 e1 e2 e3 e4 e5 e6 p_oft C_TX C_RU f_fresh f_fill f_take f_one f_same f_allw f_somew f_parts f_field f_rule f_isrow f_isword f_TXinit f_RUinit f_wrongw f_reqf f_pairs f_rlinit f_rlfields f_rlshow f_lnf f_lns f_lines f_fol f_sol f_oft f_lline f_ltext f_tried f_lisword f_fieldof f_isshow f_rdue f_due f_sptext f_law : Addr} (X : K.In h) (G : h.Ns mainGlobals mg) (hfa : mg "law" = some (.ref fa))
    {od_fresh an_fresh od_fill an_fill od_take an_take od_one an_one od_same an_same od_allw an_allw od_somew an_somew od_parts an_parts od_field an_field od_rule an_rule od_isrow an_isrow od_isword an_isword od_TXinit an_TXinit od_RUinit an_RUinit od_wrongw an_wrongw od_reqf an_reqf od_pairs an_pairs od_rlinit an_rlinit od_rlfields an_rlfields od_rlshow an_rlshow od_lnf an_lnf od_lns an_lns od_lines an_lines od_fol an_fol od_sol an_sol od_oft an_oft od_lline an_lline od_ltext an_ltext od_tried an_tried od_lisword an_lisword od_fieldof an_fieldof od_isshow an_isshow od_rdue an_rdue od_due an_due od_sptext an_sptext od_law an_law : Option Addr} {sl_fresh sl_fill sl_take sl_one sl_same sl_allw sl_somew sl_parts sl_field sl_rule sl_isrow sl_isword sl_TXinit sl_RUinit sl_wrongw sl_reqf sl_pairs sl_rlinit sl_rlfields sl_rlshow sl_lnf sl_lns sl_lines sl_fol sl_sol sl_oft sl_lline sl_ltext sl_tried sl_lisword sl_fieldof sl_isshow sl_rdue sl_due sl_sptext sl_law : Array (Option Value)} {oc_fresh kV_fresh dc_fresh pm_fresh cd_fresh ct_fresh oc_fill kV_fill dc_fill pm_fill cd_fill ct_fill oc_take kV_take dc_take pm_take cd_take ct_take oc_one kV_one dc_one pm_one cd_one ct_one oc_same kV_same dc_same pm_same cd_same ct_same oc_allw kV_allw dc_allw pm_allw cd_allw ct_allw oc_somew kV_somew dc_somew pm_somew cd_somew ct_somew oc_parts kV_parts dc_parts pm_parts cd_parts ct_parts oc_field kV_field dc_field pm_field cd_field ct_field oc_rule kV_rule dc_rule pm_rule cd_rule ct_rule oc_isrow kV_isrow dc_isrow pm_isrow cd_isrow ct_isrow oc_isword kV_isword dc_isword pm_isword cd_isword ct_isword oc_TXinit kV_TXinit dc_TXinit pm_TXinit cd_TXinit ct_TXinit oc_RUinit kV_RUinit dc_RUinit pm_RUinit cd_RUinit ct_RUinit oc_wrongw kV_wrongw dc_wrongw pm_wrongw cd_wrongw ct_wrongw oc_reqf kV_reqf dc_reqf pm_reqf cd_reqf ct_reqf oc_pairs kV_pairs dc_pairs pm_pairs cd_pairs ct_pairs oc_rlinit kV_rlinit dc_rlinit pm_rlinit cd_rlinit ct_rlinit oc_rlfields kV_rlfields dc_rlfields pm_rlfields cd_rlfields ct_rlfields oc_rlshow kV_rlshow dc_rlshow pm_rlshow cd_rlshow ct_rlshow oc_lnf kV_lnf dc_lnf pm_lnf cd_lnf ct_lnf oc_lns kV_lns dc_lns pm_lns cd_lns ct_lns oc_lines kV_lines dc_lines pm_lines cd_lines ct_lines oc_fol kV_fol dc_fol pm_fol cd_fol ct_fol oc_sol kV_sol dc_sol pm_sol cd_sol ct_sol oc_oft kV_oft dc_oft pm_oft cd_oft ct_oft oc_lline kV_lline dc_lline pm_lline cd_lline ct_lline oc_ltext kV_ltext dc_ltext pm_ltext cd_ltext ct_ltext oc_tried kV_tried dc_tried pm_tried cd_tried ct_tried oc_lisword kV_lisword dc_lisword pm_lisword cd_lisword ct_lisword oc_fieldof kV_fieldof dc_fieldof pm_fieldof cd_fieldof ct_fieldof oc_isshow kV_isshow dc_isshow pm_isshow cd_isshow ct_isshow oc_rdue kV_rdue dc_rdue pm_rdue cd_rdue ct_rdue oc_due kV_due dc_due pm_due cd_due ct_due oc_sptext kV_sptext dc_sptext pm_sptext cd_sptext ct_sptext oc_law kV_law dc_law pm_law ct_law : Value} {tL tW : Tok}
    {Z_law Y_law : Addr} {oz_law : Value} {oy_law : Option Addr} {vz_law : Array Value} {sz_law : Array (Option Value)}
    {nmTX qTX : Str} {NTX : Addr} {bsTX bmTX : List Value} {snTX : List Str} {subTX : List Value} {abTX : Bool} {colTX : Option Bool} {ddTX : Option Addr} {k0TX k1TX k2TX k3TX k5TX : Option Value} {nmRU qRU : Str} {NRU : Addr} {bsRU bmRU : List Value} {snRU : List Str} {subRU : List Value} {abRU : Bool} {colRU : Option Bool} {ddRU : Option Addr} {k0RU k1RU k2RU k3RU k5RU : Option Value} {odW0 odC0 odc1 odc2 odc3 odc4 odc5 odc6 ode1 ode2 ode3 ode4 ode5 ode6 : Option Addr} {nnW0 nnC0 nnc1 nnc2 nnc3 nnc4 nnc5 nnc6 nne1 nne2 nne3 nne4 nne5 nne6 : Nat} {slW0 slC0 slc1 slc2 slc3 slc4 slc5 slc6 sle1 sle2 sle3 sle4 sle5 sle6 : Array (Option Value)} {t1 t2 t3 t4 t5 t6 t7 t8 t9 t10 t11 t12 t13 t14 t15 t16 t17 t18 t19 t20 t21 t22 t23 t24 t25 t26 t27 t28 t29 tM : Tok} {rest_oft : List Value}
    (a_Rule : PySem.W.nsIn K mainGlobals "Rule" = some (some (.ref C_Rule)))
    (pg_Rule : PySem.W.plainGet K C_Rule Str.empty = true)
    (hd_Rule : PySem.W.hasDictIn K C_Rule = true)
    (po_Rule : PySem.W.plainOver K C_Rule = true)
    (sa_Rule : PySem.W.findIn K (.ref C_Rule) "__setattr__" = some (some (.builtin "object.__setattr__")))
    (mk_Rule : PySem.W.makesIn K C_Rule = true)
    (kc_Rule : PySem.W.keepIn K (.ref C_Rule) = true)
    (n_Rule_rows : PySem.W.findIn K (.ref C_Rule) "rows" = some none)
    (n_Rule_way : PySem.W.findIn K (.ref C_Rule) "way" = some none)
    (n_Rule_at : PySem.W.findIn K (.ref C_Rule) "at" = some none)
    (ha_Rule : PySem.W.findIn K (.ref C_Rule) "__class__" = some (some (.builtin "object.__class__")))
    (hn_Rule : PySem.W.specialIn K (.builtin "object.__class__") "__get__" = some (some (.builtin "getset_descriptor.__get__")))
    (htk_Rule : PySem.W.takesIn K (.builtin "object.__class__") = some true)
    (hm_Rule : PySem.W.mroIn K C_Rule (.type "object") = some true)
    (rd_Rule : PySem.W.readsIn K C_Rule (.type "type") = true)
    (ga_Rule : PySem.W.specialIn K (.ref C_Rule) "__getattribute__" = some (some (.builtin "type.__getattribute__")))
    (a_fresh : PySem.W.nsIn K mainGlobals "_law_fresh" = some (some (.ref f_fresh)))
    (l_fresh : K.lookup f_fresh = some ⟨oc_fresh, od_fresh, .func (PySem.W.fnOf "_law_fresh" "_law_fresh" (defArgs s_fresh) (defBody s_fresh) (defScope s_fresh) .none kV_fresh dc_fresh pm_fresh an_fresh cd_fresh ct_fresh), sl_fresh⟩)
    (c_fresh : PySem.W.codeIn K cd_fresh "_law_fresh" = true)
    (k_fresh : PySem.W.keepIn K (.ref f_fresh) = true)
    (a_fill : PySem.W.nsIn K mainGlobals "_law_fill" = some (some (.ref f_fill)))
    (l_fill : K.lookup f_fill = some ⟨oc_fill, od_fill, .func (PySem.W.fnOf "_law_fill" "_law_fill" (defArgs s_fill) (defBody s_fill) (defScope s_fill) .none kV_fill dc_fill pm_fill an_fill cd_fill ct_fill), sl_fill⟩)
    (c_fill : PySem.W.codeIn K cd_fill "_law_fill" = true)
    (k_fill : PySem.W.keepIn K (.ref f_fill) = true)
    (a_take : PySem.W.nsIn K mainGlobals "_law_take" = some (some (.ref f_take)))
    (l_take : K.lookup f_take = some ⟨oc_take, od_take, .func (PySem.W.fnOf "_law_take" "_law_take" (defArgs s_take) (defBody s_take) (defScope s_take) .none kV_take dc_take pm_take an_take cd_take ct_take), sl_take⟩)
    (c_take : PySem.W.codeIn K cd_take "_law_take" = true)
    (k_take : PySem.W.keepIn K (.ref f_take) = true)
    (a_one : PySem.W.nsIn K mainGlobals "_law_one" = some (some (.ref f_one)))
    (l_one : K.lookup f_one = some ⟨oc_one, od_one, .func (PySem.W.fnOf "_law_one" "_law_one" (defArgs s_one) (defBody s_one) (defScope s_one) .none kV_one dc_one pm_one an_one cd_one ct_one), sl_one⟩)
    (c_one : PySem.W.codeIn K cd_one "_law_one" = true)
    (k_one : PySem.W.keepIn K (.ref f_one) = true)
    (a_same : PySem.W.nsIn K mainGlobals "_law_same" = some (some (.ref f_same)))
    (l_same : K.lookup f_same = some ⟨oc_same, od_same, .func (PySem.W.fnOf "_law_same" "_law_same" (defArgs s_same) (defBody s_same) (defScope s_same) .none kV_same dc_same pm_same an_same cd_same ct_same), sl_same⟩)
    (c_same : PySem.W.codeIn K cd_same "_law_same" = true)
    (k_same : PySem.W.keepIn K (.ref f_same) = true)
    (a_allw : PySem.W.nsIn K mainGlobals "_law_all_words" = some (some (.ref f_allw)))
    (l_allw : K.lookup f_allw = some ⟨oc_allw, od_allw, .func (PySem.W.fnOf "_law_all_words" "_law_all_words" (defArgs s_all_words) (defBody s_all_words) (defScope s_all_words) .none kV_allw dc_allw pm_allw an_allw cd_allw ct_allw), sl_allw⟩)
    (c_allw : PySem.W.codeIn K cd_allw "_law_all_words" = true)
    (k_allw : PySem.W.keepIn K (.ref f_allw) = true)
    (a_somew : PySem.W.nsIn K mainGlobals "_law_some_words" = some (some (.ref f_somew)))
    (l_somew : K.lookup f_somew = some ⟨oc_somew, od_somew, .func (PySem.W.fnOf "_law_some_words" "_law_some_words" (defArgs s_some_words) (defBody s_some_words) (defScope s_some_words) .none kV_somew dc_somew pm_somew an_somew cd_somew ct_somew), sl_somew⟩)
    (c_somew : PySem.W.codeIn K cd_somew "_law_some_words" = true)
    (k_somew : PySem.W.keepIn K (.ref f_somew) = true)
    (a_parts : PySem.W.nsIn K mainGlobals "_law_parts" = some (some (.ref f_parts)))
    (l_parts : K.lookup f_parts = some ⟨oc_parts, od_parts, .func (PySem.W.fnOf "_law_parts" "_law_parts" (defArgs s_parts) (defBody s_parts) (defScope s_parts) .none kV_parts dc_parts pm_parts an_parts cd_parts ct_parts), sl_parts⟩)
    (c_parts : PySem.W.codeIn K cd_parts "_law_parts" = true)
    (k_parts : PySem.W.keepIn K (.ref f_parts) = true)
    (a_field : PySem.W.nsIn K mainGlobals "_law_field" = some (some (.ref f_field)))
    (l_field : K.lookup f_field = some ⟨oc_field, od_field, .func (PySem.W.fnOf "_law_field" "_law_field" (defArgs s_field) (defBody s_field) (defScope s_field) .none kV_field dc_field pm_field an_field cd_field ct_field), sl_field⟩)
    (c_field : PySem.W.codeIn K cd_field "_law_field" = true)
    (k_field : PySem.W.keepIn K (.ref f_field) = true)
    (a_rule : PySem.W.nsIn K mainGlobals "_law_rule" = some (some (.ref f_rule)))
    (l_rule : K.lookup f_rule = some ⟨oc_rule, od_rule, .func (PySem.W.fnOf "_law_rule" "_law_rule" (defArgs s_rule) (defBody s_rule) (defScope s_rule) .none kV_rule dc_rule pm_rule an_rule cd_rule ct_rule), sl_rule⟩)
    (c_rule : PySem.W.codeIn K cd_rule "_law_rule" = true)
    (k_rule : PySem.W.keepIn K (.ref f_rule) = true)
    (a_isrow : PySem.W.nsIn K mainGlobals "is_row" = some (some (.ref f_isrow)))
    (l_isrow : K.lookup f_isrow = some ⟨oc_isrow, od_isrow, .func (PySem.W.fnOf "is_row" "is_row" (defArgs s_is_row) (defBody s_is_row) (defScope s_is_row) .none kV_isrow dc_isrow pm_isrow an_isrow cd_isrow ct_isrow), sl_isrow⟩)
    (c_isrow : PySem.W.codeIn K cd_isrow "is_row" = true)
    (k_isrow : PySem.W.keepIn K (.ref f_isrow) = true)
    (a_isword : PySem.W.nsIn K mainGlobals "is_word" = some (some (.ref f_isword)))
    (l_isword : K.lookup f_isword = some ⟨oc_isword, od_isword, .func (PySem.W.fnOf "is_word" "is_word" (defArgs s_is_word) (defBody s_is_word) (defScope s_is_word) .none kV_isword dc_isword pm_isword an_isword cd_isword ct_isword), sl_isword⟩)
    (c_isword : PySem.W.codeIn K cd_isword "is_word" = true)
    (k_isword : PySem.W.keepIn K (.ref f_isword) = true)
    (aTX : PySem.W.nsIn K mainGlobals "BadText" = some (some (.ref C_TX)))
    (oTX : K.lookup C_TX = some (excClassObj nmTX qTX C_TX NTX bsTX bmTX true snTX subTX abTX colTX ddTX k0TX k1TX k2TX k3TX k5TX "ValueError.__new__"))
    (rTX : PySem.HandSPX.refsVE bmTX = true)
    (sTX : PySem.W.findIn K (.ref C_TX) "__setattr__" = some (some (.builtin "object.__setattr__")))
    (bTX : PySem.W.subIn K (.ref C_TX) (.type "BaseException") = some true)
    (tTX : PySem.W.typeIn K (.ref C_TX) = some (.type "type"))
    (kTX : PySem.W.keepIn K (.ref C_TX) = true)
    (gaTX : PySem.W.findIn K (.ref C_TX) "__getattribute__" = some (some (.builtin "BaseException.__getattribute__")))
    (ggTX : PySem.W.findIn K (.ref C_TX) "__getattr__" = some none)
    (hdTX : PySem.W.hasDictIn K C_TX = true)
    (iTX : PySem.W.findIn K (.ref C_TX) "__init__" = some (some (.ref f_TXinit)))
    (tyTX : PySem.W.typeIn K (.ref f_TXinit) = some (.type "function"))
    (noTX : PySem.W.findIn K (.ref C_TX) "line" = some none)
    (icTX : PySem.W.isClsIn K C_TX = true)
    (seTX : PySem.W.subIn K (.ref C_TX) (.ref C_TX) = some true)
    (l_TXinit : K.lookup f_TXinit = some ⟨oc_TXinit, od_TXinit, .func (PySem.W.fnOf "__init__" "BadText.__init__" (defArgs s_BadText_init) (defBody s_BadText_init) (defScope s_BadText_init) .none kV_TXinit dc_TXinit pm_TXinit an_TXinit cd_TXinit ct_TXinit), sl_TXinit⟩)
    (c_TXinit : PySem.W.codeIn K cd_TXinit "BadText.__init__" = true)
    (k_TXinit : PySem.W.keepIn K (.ref f_TXinit) = true)
    (aRU : PySem.W.nsIn K mainGlobals "BadRule" = some (some (.ref C_RU)))
    (oRU : K.lookup C_RU = some (excClassObj nmRU qRU C_RU NRU bsRU bmRU true snRU subRU abRU colRU ddRU k0RU k1RU k2RU k3RU k5RU "ValueError.__new__"))
    (rRU : PySem.HandSPX.refsVE bmRU = true)
    (sRU : PySem.W.findIn K (.ref C_RU) "__setattr__" = some (some (.builtin "object.__setattr__")))
    (bRU : PySem.W.subIn K (.ref C_RU) (.type "BaseException") = some true)
    (tRU : PySem.W.typeIn K (.ref C_RU) = some (.type "type"))
    (kRU : PySem.W.keepIn K (.ref C_RU) = true)
    (gaRU : PySem.W.findIn K (.ref C_RU) "__getattribute__" = some (some (.builtin "BaseException.__getattribute__")))
    (ggRU : PySem.W.findIn K (.ref C_RU) "__getattr__" = some none)
    (hdRU : PySem.W.hasDictIn K C_RU = true)
    (iRU : PySem.W.findIn K (.ref C_RU) "__init__" = some (some (.ref f_RUinit)))
    (tyRU : PySem.W.typeIn K (.ref f_RUinit) = some (.type "function"))
    (icRU : PySem.W.isClsIn K C_RU = true)
    (seRU : PySem.W.subIn K (.ref C_RU) (.ref C_RU) = some true)
    (subRUTX : PySem.W.subIn K (.ref C_RU) (.ref C_TX) = some false)
    (noRU : PySem.W.findIn K (.ref C_RU) "index" = some none)
    (npRU : PySem.W.findIn K (.ref C_RU) "reason" = some none)
    (l_RUinit : K.lookup f_RUinit = some ⟨oc_RUinit, od_RUinit, .func (PySem.W.fnOf "__init__" "BadRule.__init__" (defArgs s_BadRule_init) (defBody s_BadRule_init) (defScope s_BadRule_init) .none kV_RUinit dc_RUinit pm_RUinit an_RUinit cd_RUinit ct_RUinit), sl_RUinit⟩)
    (c_RUinit : PySem.W.codeIn K cd_RUinit "BadRule.__init__" = true)
    (k_RUinit : PySem.W.keepIn K (.ref f_RUinit) = true)
    (a_wrongw : PySem.W.nsIn K mainGlobals "wrong_with" = some (some (.ref f_wrongw)))
    (l_wrongw : K.lookup f_wrongw = some ⟨oc_wrongw, od_wrongw, .func (PySem.W.fnOf "wrong_with" "wrong_with" (defArgs s_wrong_with) (defBody s_wrong_with) (defScope s_wrong_with) .none kV_wrongw dc_wrongw pm_wrongw an_wrongw cd_wrongw ct_wrongw), sl_wrongw⟩)
    (c_wrongw : PySem.W.codeIn K cd_wrongw "wrong_with" = true)
    (k_wrongw : PySem.W.keepIn K (.ref f_wrongw) = true)
    (a_reqf : PySem.W.nsIn K mainGlobals "require_fields" = some (some (.ref f_reqf)))
    (l_reqf : K.lookup f_reqf = some ⟨oc_reqf, od_reqf, .func (PySem.W.fnOf "require_fields" "require_fields" (defArgs s_require_fields) (defBody s_require_fields) (defScope s_require_fields) .none kV_reqf dc_reqf pm_reqf an_reqf cd_reqf ct_reqf), sl_reqf⟩)
    (c_reqf : PySem.W.codeIn K cd_reqf "require_fields" = true)
    (k_reqf : PySem.W.keepIn K (.ref f_reqf) = true)
    (a_pairs : PySem.W.nsIn K mainGlobals "is_pair_shown" = some (some (.ref f_pairs)))
    (l_pairs : K.lookup f_pairs = some ⟨oc_pairs, od_pairs, .func (PySem.W.fnOf "is_pair_shown" "is_pair_shown" (defArgs s_is_pair_shown) (defBody s_is_pair_shown) (defScope s_is_pair_shown) .none kV_pairs dc_pairs pm_pairs an_pairs cd_pairs ct_pairs), sl_pairs⟩)
    (c_pairs : PySem.W.codeIn K cd_pairs "is_pair_shown" = true)
    (k_pairs : PySem.W.keepIn K (.ref f_pairs) = true)
    (a_rlinit : PySem.W.findIn K (.ref C_Rule) "__init__" = some (some (.ref f_rlinit)))
    (i_rlinit : PySem.W.isFn K (.ref f_rlinit) = true)
    (l_rlinit : K.lookup f_rlinit = some ⟨oc_rlinit, od_rlinit, .func (PySem.W.fnOf "__init__" "Rule.__init__" (defArgs s_Rule_init) (defBody s_Rule_init) (defScope s_Rule_init) .none kV_rlinit dc_rlinit pm_rlinit an_rlinit cd_rlinit ct_rlinit), sl_rlinit⟩)
    (c_rlinit : PySem.W.codeIn K cd_rlinit "Rule.__init__" = true)
    (k_rlinit : PySem.W.keepIn K (.ref f_rlinit) = true)
    (a_rlfields : PySem.W.findIn K (.ref C_Rule) "fields" = some (some (.ref f_rlfields)))
    (i_rlfields : PySem.W.isFn K (.ref f_rlfields) = true)
    (l_rlfields : K.lookup f_rlfields = some ⟨oc_rlfields, od_rlfields, .func (PySem.W.fnOf "fields" "Rule.fields" (defArgs s_Rule_fields) (defBody s_Rule_fields) (defScope s_Rule_fields) .none kV_rlfields dc_rlfields pm_rlfields an_rlfields cd_rlfields ct_rlfields), sl_rlfields⟩)
    (c_rlfields : PySem.W.codeIn K cd_rlfields "Rule.fields" = true)
    (k_rlfields : PySem.W.keepIn K (.ref f_rlfields) = true)
    (a_rlshow : PySem.W.findIn K (.ref C_Rule) "show" = some (some (.ref f_rlshow)))
    (i_rlshow : PySem.W.isFn K (.ref f_rlshow) = true)
    (l_rlshow : K.lookup f_rlshow = some ⟨oc_rlshow, od_rlshow, .func (PySem.W.fnOf "show" "Rule.show" (defArgs s_Rule_show) (defBody s_Rule_show) (defScope s_Rule_show) .none kV_rlshow dc_rlshow pm_rlshow an_rlshow cd_rlshow ct_rlshow), sl_rlshow⟩)
    (c_rlshow : PySem.W.codeIn K cd_rlshow "Rule.show" = true)
    (k_rlshow : PySem.W.keepIn K (.ref f_rlshow) = true)
    (a_lnf : PySem.W.nsIn K mainGlobals "line_of_field" = some (some (.ref f_lnf)))
    (l_lnf : K.lookup f_lnf = some ⟨oc_lnf, od_lnf, .func (PySem.W.fnOf "line_of_field" "line_of_field" (defArgs s_line_of_field) (defBody s_line_of_field) (defScope s_line_of_field) .none kV_lnf dc_lnf pm_lnf an_lnf cd_lnf ct_lnf), sl_lnf⟩)
    (c_lnf : PySem.W.codeIn K cd_lnf "line_of_field" = true)
    (k_lnf : PySem.W.keepIn K (.ref f_lnf) = true)
    (a_lns : PySem.W.nsIn K mainGlobals "line_of_show" = some (some (.ref f_lns)))
    (l_lns : K.lookup f_lns = some ⟨oc_lns, od_lns, .func (PySem.W.fnOf "line_of_show" "line_of_show" (defArgs s_line_of_show) (defBody s_line_of_show) (defScope s_line_of_show) .none kV_lns dc_lns pm_lns an_lns cd_lns ct_lns), sl_lns⟩)
    (c_lns : PySem.W.codeIn K cd_lns "line_of_show" = true)
    (k_lns : PySem.W.keepIn K (.ref f_lns) = true)
    (a_lines : PySem.W.nsIn K mainGlobals "lines_of" = some (some (.ref f_lines)))
    (l_lines : K.lookup f_lines = some ⟨oc_lines, od_lines, .func (PySem.W.fnOf "lines_of" "lines_of" (defArgs s_lines_of) (defBody s_lines_of) (defScope s_lines_of) .none kV_lines dc_lines pm_lines an_lines cd_lines ct_lines), sl_lines⟩)
    (c_lines : PySem.W.codeIn K cd_lines "lines_of" = true)
    (k_lines : PySem.W.keepIn K (.ref f_lines) = true)
    (a_fol : PySem.W.nsIn K mainGlobals "field_of_line" = some (some (.ref f_fol)))
    (l_fol : K.lookup f_fol = some ⟨oc_fol, od_fol, .func (PySem.W.fnOf "field_of_line" "field_of_line" (defArgs s_field_of_line) (defBody s_field_of_line) (defScope s_field_of_line) .none kV_fol dc_fol pm_fol an_fol cd_fol ct_fol), sl_fol⟩)
    (c_fol : PySem.W.codeIn K cd_fol "field_of_line" = true)
    (k_fol : PySem.W.keepIn K (.ref f_fol) = true)
    (a_sol : PySem.W.nsIn K mainGlobals "show_of_line" = some (some (.ref f_sol)))
    (l_sol : K.lookup f_sol = some ⟨oc_sol, od_sol, .func (PySem.W.fnOf "show_of_line" "show_of_line" (defArgs s_show_of_line) (defBody s_show_of_line) (defScope s_show_of_line) .none kV_sol dc_sol pm_sol an_sol cd_sol ct_sol), sl_sol⟩)
    (c_sol : PySem.W.codeIn K cd_sol "show_of_line" = true)
    (k_sol : PySem.W.keepIn K (.ref f_sol) = true)
    (x_oft : PySem.W.findCls K (.ref C_Rule) (.type "type") "of_text" = some (.get (.builtin "classmethod.__get__") (.ref p_oft) .none (.ref C_Rule)))
    (y_oft : PySem.W.recIn K p_oft "classmethod" = some (.ref f_oft :: rest_oft))
    (z_oft : PySem.W.fnIn K f_oft = true)
    (l_oft : K.lookup f_oft = some ⟨oc_oft, od_oft, .func (PySem.W.fnOf "of_text" "Rule.of_text" (defArgs s_Rule_of_text) (defBody s_Rule_of_text) (defScope s_Rule_of_text) .none kV_oft dc_oft pm_oft an_oft cd_oft ct_oft), sl_oft⟩)
    (c_oft : PySem.W.codeIn K cd_oft "Rule.of_text" = true)
    (k_oft : PySem.W.keepIn K (.ref f_oft) = true)
    (a_lline : PySem.W.nsIn K mainGlobals "_law_line" = some (some (.ref f_lline)))
    (l_lline : K.lookup f_lline = some ⟨oc_lline, od_lline, .func (PySem.W.fnOf "_law_line" "_law_line" (defArgs s_line) (defBody s_line) (defScope s_line) .none kV_lline dc_lline pm_lline an_lline cd_lline ct_lline), sl_lline⟩)
    (c_lline : PySem.W.codeIn K cd_lline "_law_line" = true)
    (k_lline : PySem.W.keepIn K (.ref f_lline) = true)
    (a_ltext : PySem.W.nsIn K mainGlobals "_law_text" = some (some (.ref f_ltext)))
    (l_ltext : K.lookup f_ltext = some ⟨oc_ltext, od_ltext, .func (PySem.W.fnOf "_law_text" "_law_text" (defArgs s_text) (defBody s_text) (defScope s_text) .none kV_ltext dc_ltext pm_ltext an_ltext cd_ltext ct_ltext), sl_ltext⟩)
    (c_ltext : PySem.W.codeIn K cd_ltext "_law_text" = true)
    (k_ltext : PySem.W.keepIn K (.ref f_ltext) = true)
    (a_tried : PySem.W.nsIn K mainGlobals "_law_tried" = some (some (.ref f_tried)))
    (l_tried : K.lookup f_tried = some ⟨oc_tried, od_tried, .func (PySem.W.fnOf "_law_tried" "_law_tried" (defArgs s_tried) (defBody s_tried) (defScope s_tried) .none kV_tried dc_tried pm_tried an_tried cd_tried ct_tried), sl_tried⟩)
    (c_tried : PySem.W.codeIn K cd_tried "_law_tried" = true)
    (k_tried : PySem.W.keepIn K (.ref f_tried) = true)
    (a_lisword : PySem.W.nsIn K mainGlobals "_law_is_word" = some (some (.ref f_lisword)))
    (l_lisword : K.lookup f_lisword = some ⟨oc_lisword, od_lisword, .func (PySem.W.fnOf "_law_is_word" "_law_is_word" (defArgs s_lis_word) (defBody s_lis_word) (defScope s_lis_word) .none kV_lisword dc_lisword pm_lisword an_lisword cd_lisword ct_lisword), sl_lisword⟩)
    (c_lisword : PySem.W.codeIn K cd_lisword "_law_is_word" = true)
    (k_lisword : PySem.W.keepIn K (.ref f_lisword) = true)
    (a_fieldof : PySem.W.nsIn K mainGlobals "_law_field_of" = some (some (.ref f_fieldof)))
    (l_fieldof : K.lookup f_fieldof = some ⟨oc_fieldof, od_fieldof, .func (PySem.W.fnOf "_law_field_of" "_law_field_of" (defArgs s_field_of) (defBody s_field_of) (defScope s_field_of) .none kV_fieldof dc_fieldof pm_fieldof an_fieldof cd_fieldof ct_fieldof), sl_fieldof⟩)
    (c_fieldof : PySem.W.codeIn K cd_fieldof "_law_field_of" = true)
    (k_fieldof : PySem.W.keepIn K (.ref f_fieldof) = true)
    (a_isshow : PySem.W.nsIn K mainGlobals "_law_is_show" = some (some (.ref f_isshow)))
    (l_isshow : K.lookup f_isshow = some ⟨oc_isshow, od_isshow, .func (PySem.W.fnOf "_law_is_show" "_law_is_show" (defArgs s_is_show) (defBody s_is_show) (defScope s_is_show) .none kV_isshow dc_isshow pm_isshow an_isshow cd_isshow ct_isshow), sl_isshow⟩)
    (c_isshow : PySem.W.codeIn K cd_isshow "_law_is_show" = true)
    (k_isshow : PySem.W.keepIn K (.ref f_isshow) = true)
    (a_rdue : PySem.W.nsIn K mainGlobals "_law_rule_due" = some (some (.ref f_rdue)))
    (l_rdue : K.lookup f_rdue = some ⟨oc_rdue, od_rdue, .func (PySem.W.fnOf "_law_rule_due" "_law_rule_due" (defArgs s_rule_due) (defBody s_rule_due) (defScope s_rule_due) .none kV_rdue dc_rdue pm_rdue an_rdue cd_rdue ct_rdue), sl_rdue⟩)
    (c_rdue : PySem.W.codeIn K cd_rdue "_law_rule_due" = true)
    (k_rdue : PySem.W.keepIn K (.ref f_rdue) = true)
    (a_due : PySem.W.nsIn K mainGlobals "_law_due" = some (some (.ref f_due)))
    (l_due : K.lookup f_due = some ⟨oc_due, od_due, .func (PySem.W.fnOf "_law_due" "_law_due" (defArgs s_due) (defBody s_due) (defScope s_due) .none kV_due dc_due pm_due an_due cd_due ct_due), sl_due⟩)
    (c_due : PySem.W.codeIn K cd_due "_law_due" = true)
    (k_due : PySem.W.keepIn K (.ref f_due) = true)
    (a_sptext : PySem.W.nsIn K mainGlobals "_law_spoilt_text" = some (some (.ref f_sptext)))
    (l_sptext : K.lookup f_sptext = some ⟨oc_sptext, od_sptext, .func (PySem.W.fnOf "_law_spoilt_text" "_law_spoilt_text" (defArgs s_spoilt_text) (defBody s_spoilt_text) (defScope s_spoilt_text) .none kV_sptext dc_sptext pm_sptext an_sptext cd_sptext ct_sptext), sl_sptext⟩)
    (c_sptext : PySem.W.codeIn K cd_sptext "_law_spoilt_text" = true)
    (k_sptext : PySem.W.keepIn K (.ref f_sptext) = true)
    (a_law : PySem.W.nsIn K mainGlobals "law" = some (some (.ref f_law)))
    (l_law : K.lookup f_law = some ⟨oc_law, od_law, .func (PySem.W.fnOf "law" "law" (defArgs s_law) (defBody s_law) (defScope s_law) .none kV_law dc_law pm_law an_law (.ref Z_law) ct_law), sl_law⟩)
    (c_law : PySem.W.codeIn K (.ref Z_law) "law" = true)
    (k_law : PySem.W.keepIn K (.ref f_law) = true)
    (lz_law : K.lookup Z_law = some ⟨oz_law, oy_law, .fields vz_law, sz_law⟩)
    (vz_law : vz_law[11]? = some (.ref Y_law))
    (hz_law : PySem.W.codeHdIn K Z_law Y_law = true)
    (nz_law : K.lookup Y_law = none)
    (tz_law : h.get? Y_law = some (PySem.W.tabObj #[]))
    (g_LETTERS : PySem.W.nsIn K mainGlobals "LETTERS" = some (some (.str "abcdefghijklmnopqrstuvwxyz" tL)))
    (g_LONGEST_WORD : PySem.W.nsIn K mainGlobals "LONGEST_WORD" = some (some (.int 8 tW)))
    (g_MOST_FIELDS : PySem.W.nsIn K mainGlobals "MOST_FIELDS" = some (some (.int 3 tM)))
    (g_COLUMNS : PySem.W.nsIn K mainGlobals "COLUMNS" = some (some (.ref C0)))
    (g_WAYS : PySem.W.nsIn K mainGlobals "WAYS" = some (some (.ref W0)))
    (z_len : PySem.W.nsIn K mainGlobals "len" = some none)
    (z_int : PySem.W.nsIn K mainGlobals "int" = some none)
    (z_range : PySem.W.nsIn K mainGlobals "range" = some none)
    (z_enumerate : PySem.W.nsIn K mainGlobals "enumerate" = some none)
    (z_isinstance : PySem.W.nsIn K mainGlobals "isinstance" = some none)
    (z_list : PySem.W.nsIn K mainGlobals "list" = some none)
    (z_tuple : PySem.W.nsIn K mainGlobals "tuple" = some none)
    (z_str : PySem.W.nsIn K mainGlobals "str" = some none)
    (z_bool : PySem.W.nsIn K mainGlobals "bool" = some none)
    (z_all : PySem.W.nsIn K mainGlobals "all" = some none)
    (z_max : PySem.W.nsIn K mainGlobals "max" = some none)
    (z_zip : PySem.W.nsIn K mainGlobals "zip" = some none)
    (kW0 : K.lookup W0 = some ⟨.type "tuple", odW0, .seq #[.str "stay" t1, .str "field" t2, .str "greater" t3] nnW0, slW0⟩)
    (kC0 : K.lookup C0 = some ⟨.type "tuple", odC0, .seq #[.ref c1, .ref c2, .ref c3, .ref c4, .ref c5, .ref c6] nnC0, slC0⟩)
    (kc1 : K.lookup c1 = some ⟨.type "tuple", odc1, .seq #[.str "read" t4, .ref e1] nnc1, slc1⟩)
    (kc2 : K.lookup c2 = some ⟨.type "tuple", odc2, .seq #[.str "jump" t5, .ref e2] nnc2, slc2⟩)
    (kc3 : K.lookup c3 = some ⟨.type "tuple", odc3, .seq #[.str "anew" t6, .ref e3] nnc3, slc3⟩)
    (kc4 : K.lookup c4 = some ⟨.type "tuple", odc4, .seq #[.str "give" t7, .ref e4] nnc4, slc4⟩)
    (kc5 : K.lookup c5 = some ⟨.type "tuple", odc5, .seq #[.str "take" t8, .ref e5] nnc5, slc5⟩)
    (kc6 : K.lookup c6 = some ⟨.type "tuple", odc6, .seq #[.str "kept" t9, .ref e6] nnc6, slc6⟩)
    (ke1 : K.lookup e1 = some ⟨.type "tuple", ode1, .seq #[.str "no" t10, .str "last" t11, .str "raise" t12, .str "row" t13] nne1, sle1⟩)
    (ke2 : K.lookup e2 = some ⟨.type "tuple", ode2, .seq #[.str "no" t14, .str "last" t15, .str "raise" t16, .str "lower" t17] nne2, sle2⟩)
    (ke3 : K.lookup e3 = some ⟨.type "tuple", ode3, .seq #[.str "no" t18, .str "least" t19] nne3, sle3⟩)
    (ke4 : K.lookup e4 = some ⟨.type "tuple", ode4, .seq #[.str "no" t20, .str "last" t21, .str "raise" t22, .str "later" t23] nne4, sle4⟩)
    (ke5 : K.lookup e5 = some ⟨.type "tuple", ode5, .seq #[.str "no" t24, .str "last" t25, .str "raise" t26, .str "later" t27] nne5, sle5⟩)
    (ke6 : K.lookup e6 = some ⟨.type "tuple", ode6, .seq #[.str "exact" t28, .str "floored" t29] nne6, sle6⟩)
    : LamX.LawAtS l w K CX0 10 63 "_law_script" mg fa h := by
  have e := hfa.symm.trans (PySem.W.mg_of X G a_law)
  cases e
  have T : Blt mg := ⟨PySem.W.mg_none_of X G z_len, PySem.W.mg_none_of X G z_int, PySem.W.mg_none_of X G z_range, PySem.W.mg_none_of X G z_enumerate, PySem.W.mg_none_of X G z_isinstance, PySem.W.mg_none_of X G z_list, PySem.W.mg_none_of X G z_tuple, PySem.W.mg_none_of X G z_str, PySem.W.mg_none_of X G z_bool, PySem.W.mg_none_of X G z_all, PySem.W.mg_none_of X G z_max, PySem.W.mg_none_of X G z_zip⟩
  have cl_Rule : Cls K C_Rule := ⟨pg_Rule, hd_Rule, po_Rule, sa_Rule⟩
  have mg_Rule := PySem.W.mg_of X G a_Rule
  have TC : Cst mg tL tW := ⟨PySem.W.mg_of X G g_LETTERS, PySem.W.mg_of X G g_LONGEST_WORD⟩
  have TE_TX : ErrF K mg "BadText" C_TX f_TXinit "line" := ⟨PySem.W.mg_of X G aTX, ⟨⟨_, _, _, _, _, _, _, _, _, _, _, _, _, _, _, oTX, rTX⟩, sTX, bTX, tTX, kTX⟩, ⟨gaTX, ggTX, bTX, hdTX⟩, iTX, tyTX, noTX, icTX, seTX⟩
  have TE_RU : ErrF2 K mg "BadRule" C_RU f_RUinit "index" "reason" := ⟨PySem.W.mg_of X G aRU, ⟨⟨_, _, _, _, _, _, _, _, _, _, _, _, _, _, _, oRU, rRU⟩, sRU, bRU, tRU, kRU⟩, ⟨gaRU, ggRU, bRU, hdRU⟩, iRU, tyRU, noRU, npRU, icRU, seRU⟩
  have WR : RlTxt K C_Rule := ⟨cl_Rule, n_Rule_rows, n_Rule_way, n_Rule_at⟩
  have TR : RlCst mg C0 W0 tM := ⟨PySem.W.mg_of X G g_MOST_FIELDS, PySem.W.mg_of X G g_COLUMNS, PySem.W.mg_of X G g_WAYS⟩
  have hW : ∀ H, SqT K H W0 (ways.map V.str) := (sqt_of kW0 (Nat.le_of_ble_eq_true rfl) (.cons ⟨_, rfl⟩ (.cons ⟨_, rfl⟩ (.cons ⟨_, rfl⟩ (.nil)))))
  have CC : ColsN K C0 := cols_mkN (sqt_of kC0 (Nat.le_of_ble_eq_true rfl) (.cons rfl (.cons rfl (.cons rfl (.cons rfl (.cons rfl (.cons rfl (.nil)))))))) (sqt_of kc1 (Nat.le_of_ble_eq_true rfl) (.cons ⟨_, rfl⟩ (.cons rfl (.nil)))) (sqt_of kc2 (Nat.le_of_ble_eq_true rfl) (.cons ⟨_, rfl⟩ (.cons rfl (.nil)))) (sqt_of kc3 (Nat.le_of_ble_eq_true rfl) (.cons ⟨_, rfl⟩ (.cons rfl (.nil)))) (sqt_of kc4 (Nat.le_of_ble_eq_true rfl) (.cons ⟨_, rfl⟩ (.cons rfl (.nil)))) (sqt_of kc5 (Nat.le_of_ble_eq_true rfl) (.cons ⟨_, rfl⟩ (.cons rfl (.nil)))) (sqt_of kc6 (Nat.le_of_ble_eq_true rfl) (.cons ⟨_, rfl⟩ (.cons rfl (.nil)))) (sqt_of ke1 (Nat.le_of_ble_eq_true rfl) (.cons ⟨_, rfl⟩ (.cons ⟨_, rfl⟩ (.cons ⟨_, rfl⟩ (.cons ⟨_, rfl⟩ (.nil)))))) (sqt_of ke2 (Nat.le_of_ble_eq_true rfl) (.cons ⟨_, rfl⟩ (.cons ⟨_, rfl⟩ (.cons ⟨_, rfl⟩ (.cons ⟨_, rfl⟩ (.nil)))))) (sqt_of ke3 (Nat.le_of_ble_eq_true rfl) (.cons ⟨_, rfl⟩ (.cons ⟨_, rfl⟩ (.nil)))) (sqt_of ke4 (Nat.le_of_ble_eq_true rfl) (.cons ⟨_, rfl⟩ (.cons ⟨_, rfl⟩ (.cons ⟨_, rfl⟩ (.cons ⟨_, rfl⟩ (.nil)))))) (sqt_of ke5 (Nat.le_of_ble_eq_true rfl) (.cons ⟨_, rfl⟩ (.cons ⟨_, rfl⟩ (.cons ⟨_, rfl⟩ (.cons ⟨_, rfl⟩ (.nil)))))) (sqt_of ke6 (Nat.le_of_ble_eq_true rfl) (.cons ⟨_, rfl⟩ (.cons ⟨_, rfl⟩ (.nil))))
  have TI : RlIsi K mg C_Rule := ⟨mg_Rule, ha_Rule, hn_Rule, htk_Rule, hm_Rule, if_pos (beq_self_eq_true _)⟩
  have F_fresh := fun_mk (st := s_fresh) l_fresh c_fresh k_fresh
  have b_fresh := F_fresh.binds (ps := ["_law_script"]) fun _ _ _ _ _ _ us hl => match us, hl with | [_], _ => rfl
  have F_fill := fun_mk (st := s_fill) l_fill c_fill k_fill
  have b_fill := F_fill.binds (ps := ["_law_state"]) fun _ _ _ _ _ _ us hl => match us, hl with | [_], _ => rfl
  have F_take := fun_mk (st := s_take) l_take c_take k_take
  have b_take := F_take.binds (ps := ["_law_state", "_law_many"]) fun _ _ _ _ _ _ us hl => match us, hl with | [_, _], _ => rfl
  have F_one := fun_mk (st := s_one) l_one c_one k_one
  have b_one := F_one.binds (ps := ["_law_state", "_law_things"]) fun _ _ _ _ _ _ us hl => match us, hl with | [_, _], _ => rfl
  have F_same := fun_mk (st := s_same) l_same c_same k_same
  have b_same := F_same.binds (ps := ["_law_found", "_law_due_here"]) fun _ _ _ _ _ _ us hl => match us, hl with | [_, _], _ => rfl
  have F_allw := fun_mk (st := s_all_words) l_allw c_allw k_allw
  have b_allw := F_allw.binds (ps := []) fun _ _ _ _ _ _ us hl => match us, hl with | [], _ => rfl
  have F_somew := fun_mk (st := s_some_words) l_somew c_somew k_somew
  have b_somew := F_somew.binds (ps := ["_law_state", "_law_many"]) fun _ _ _ _ _ _ us hl => match us, hl with | [_, _], _ => rfl
  have F_parts := fun_mk (st := s_parts) l_parts c_parts k_parts
  have b_parts := F_parts.binds (ps := []) fun _ _ _ _ _ _ us hl => match us, hl with | [], _ => rfl
  have F_field := fun_mk (st := s_field) l_field c_field k_field
  have b_field := F_field.binds (ps := ["_law_state", "_law_called"]) fun _ _ _ _ _ _ us hl => match us, hl with | [_, _], _ => rfl
  have F_rule := fun_mk (st := s_rule) l_rule c_rule k_rule
  have b_rule := F_rule.binds (ps := ["_law_state"]) fun _ _ _ _ _ _ us hl => match us, hl with | [_], _ => rfl
  have F_isrow := fun_mk (st := s_is_row) l_isrow c_isrow k_isrow
  have b_isrow := F_isrow.binds (ps := ["x"]) fun _ _ _ _ _ _ us hl => match us, hl with | [_], _ => rfl
  have F_isword := fun_mk (st := s_is_word) l_isword c_isword k_isword
  have b_isword := F_isword.binds (ps := ["x"]) fun _ _ _ _ _ _ us hl => match us, hl with | [_], _ => rfl
  have F_TXinit := fun_mk (st := s_BadText_init) l_TXinit c_TXinit k_TXinit
  have b_TXinit := F_TXinit.binds (ps := ["self", "line"]) fun _ _ _ _ _ _ us hl => match us, hl with | [_, _], _ => rfl
  have F_RUinit := fun_mk (st := s_BadRule_init) l_RUinit c_RUinit k_RUinit
  have b_RUinit := F_RUinit.binds (ps := ["self", "index", "reason"]) fun _ _ _ _ _ _ us hl => match us, hl with | [_, _, _], _ => rfl
  have F_wrongw := fun_mk (st := s_wrong_with) l_wrongw c_wrongw k_wrongw
  have b_wrongw := F_wrongw.binds (ps := ["field", "names"]) fun _ _ _ _ _ _ us hl => match us, hl with | [_, _], _ => rfl
  have F_reqf := fun_mk (st := s_require_fields) l_reqf c_reqf k_reqf
  have b_reqf := F_reqf.binds (ps := ["fields"]) fun _ _ _ _ _ _ us hl => match us, hl with | [_], _ => rfl
  have F_pairs := fun_mk (st := s_is_pair_shown) l_pairs c_pairs k_pairs
  have b_pairs := F_pairs.binds (ps := ["show"]) fun _ _ _ _ _ _ us hl => match us, hl with | [_], _ => rfl
  have F_rlinit := fun_mk (st := s_Rule_init) l_rlinit c_rlinit k_rlinit
  have b_rlinit := F_rlinit.binds (ps := ["self", "fields", "show"]) fun _ _ _ _ _ _ us hl => match us, hl with | [_, _, _], _ => rfl
  have F_rlfields := fun_mk (st := s_Rule_fields) l_rlfields c_rlfields k_rlfields
  have b_rlfields := F_rlfields.binds (ps := ["self"]) fun _ _ _ _ _ _ us hl => match us, hl with | [_], _ => rfl
  have F_rlshow := fun_mk (st := s_Rule_show) l_rlshow c_rlshow k_rlshow
  have b_rlshow := F_rlshow.binds (ps := ["self"]) fun _ _ _ _ _ _ us hl => match us, hl with | [_], _ => rfl
  have F_lnf := fun_mk (st := s_line_of_field) l_lnf c_lnf k_lnf
  have b_lnf := F_lnf.binds (ps := ["field"]) fun _ _ _ _ _ _ us hl => match us, hl with | [_], _ => rfl
  have F_lns := fun_mk (st := s_line_of_show) l_lns c_lns k_lns
  have b_lns := F_lns.binds (ps := ["show"]) fun _ _ _ _ _ _ us hl => match us, hl with | [_], _ => rfl
  have F_lines := fun_mk (st := s_lines_of) l_lines c_lines k_lines
  have b_lines := F_lines.binds (ps := ["text"]) fun _ _ _ _ _ _ us hl => match us, hl with | [_], _ => rfl
  have F_fol := fun_mk (st := s_field_of_line) l_fol c_fol k_fol
  have b_fol := F_fol.binds (ps := ["line"]) fun _ _ _ _ _ _ us hl => match us, hl with | [_], _ => rfl
  have F_sol := fun_mk (st := s_show_of_line) l_sol c_sol k_sol
  have b_sol := F_sol.binds (ps := ["line"]) fun _ _ _ _ _ _ us hl => match us, hl with | [_], _ => rfl
  have F_oft := fun_mk (st := s_Rule_of_text) l_oft c_oft k_oft
  have b_oft := F_oft.binds (ps := ["cls", "text"]) fun _ _ _ _ _ _ us hl => match us, hl with | [_, _], _ => rfl
  have F_lline := fun_mk (st := s_line) l_lline c_lline k_lline
  have b_lline := F_lline.binds (ps := ["_law_row"]) fun _ _ _ _ _ _ us hl => match us, hl with | [_], _ => rfl
  have F_ltext := fun_mk (st := s_text) l_ltext c_ltext k_ltext
  have b_ltext := F_ltext.binds (ps := ["_law_rows", "_law_shown"]) fun _ _ _ _ _ _ us hl => match us, hl with | [_, _], _ => rfl
  have F_tried := fun_mk (st := s_tried) l_tried c_tried k_tried
  have b_tried := F_tried.binds (ps := ["_law_ask"]) fun _ _ _ _ _ _ us hl => match us, hl with | [_], _ => rfl
  have F_lisword := fun_mk (st := s_lis_word) l_lisword c_lisword k_lisword
  have b_lisword := F_lisword.binds (ps := ["_law_x"]) fun _ _ _ _ _ _ us hl => match us, hl with | [_], _ => rfl
  have F_fieldof := fun_mk (st := s_field_of) l_fieldof c_fieldof k_fieldof
  have b_fieldof := F_fieldof.binds (ps := ["_law_line_here"]) fun _ _ _ _ _ _ us hl => match us, hl with | [_], _ => rfl
  have F_isshow := fun_mk (st := s_is_show) l_isshow c_isshow k_isshow
  have b_isshow := F_isshow.binds (ps := ["_law_line_here"]) fun _ _ _ _ _ _ us hl => match us, hl with | [_], _ => rfl
  have F_rdue := fun_mk (st := s_rule_due) l_rdue c_rdue k_rdue
  have b_rdue := F_rdue.binds (ps := ["_law_rows", "_law_words"]) fun _ _ _ _ _ _ us hl => match us, hl with | [_, _], _ => rfl
  have F_due := fun_mk (st := s_due) l_due c_due k_due
  have b_due := F_due.binds (ps := ["_law_text_here"]) fun _ _ _ _ _ _ us hl => match us, hl with | [_], _ => rfl
  have F_sptext := fun_mk (st := s_spoilt_text) l_sptext c_sptext k_sptext
  have b_sptext := F_sptext.binds (ps := ["_law_state", "_law_text_here"]) fun _ _ _ _ _ _ us hl => match us, hl with | [_, _], _ => rfl
  have F_law := fun_mk (st := s_law) l_law c_law k_law
  refine ⟨PySem.W.fnOf "law" "law" (defArgs s_law) (defBody s_law) (defScope s_law) .none kV_law dc_law pm_law an_law (.ref Z_law) ct_law, [(Z_law, Y_law)], spLawT K Y_law, ?_, ?_, ?_, fun s v => .of_eq rfl, fun H a ns hl _ hT hS => ⟨a, ns, rfl, hS, hl, hT _ (List.mem_cons_self ..), fun _ => rfl⟩, fun base _ _ hTB => ?_⟩
  · exact List.forall_mem_cons.mpr ⟨tz_law, fun _ h => nomatch h⟩
  · exact List.forall_mem_cons.mpr ⟨nz_law, fun _ h => nomatch h⟩
  · exact List.forall_mem_cons.mpr ⟨PySem.W.codeHd_of_K X hz_law, fun _ h => nomatch h⟩
  have TB_law : LamX.TabB base mg Z_law Y_law := hTB (Z_law, Y_law) (by simp)
  have O_fresh : FnOk l.prog w K mg base CX0 1 f_fresh _ ["_law_script"] (spFresh K) := ok_fresh F_fresh T
  have D_fresh : DefOk l.prog w K mg base 1 "_law_fresh" f_fresh _ ["_law_script"] (spFresh K) := ⟨O_fresh, k_fresh, b_fresh, PySem.W.mg_of X G a_fresh⟩
  have O_fill : FnOk l.prog w K mg base CX0 1 f_fill _ ["_law_state"] spFill := ok_fill F_fill T
  have D_fill : DefOk l.prog w K mg base 1 "_law_fill" f_fill _ ["_law_state"] spFill := ⟨O_fill, k_fill, b_fill, PySem.W.mg_of X G a_fill⟩
  have O_take : FnOk l.prog w K mg base CX0 2 f_take _ ["_law_state", "_law_many"] spTake := ok_take F_take T D_fill
  have D_take : DefOk l.prog w K mg base 2 "_law_take" f_take _ ["_law_state", "_law_many"] spTake := ⟨O_take, k_take, b_take, PySem.W.mg_of X G a_take⟩
  have O_one : FnOk l.prog w K mg base CX0 3 f_one _ ["_law_state", "_law_things"] (spOneA K) := ok_oneA F_one T D_take
  have D_one : DefOk l.prog w K mg base 3 "_law_one" f_one _ ["_law_state", "_law_things"] (spOneA K) := ⟨O_one, k_one, b_one, PySem.W.mg_of X G a_one⟩
  have O_same : FnOk l.prog w K mg base CX0 5 f_same _ ["_law_found", "_law_due_here"] (spSame 5) := (ok_same (d := 4) F_same T ⟨(ok_same (d := 3) F_same T ⟨(ok_same (d := 2) F_same T ⟨(ok_same (d := 1) F_same T ⟨(ok_same (d := 0) F_same T ⟨(ok_none.imp fun _ _ _ _ ⟨_, _, _, h, _⟩ => h.elim), k_same, b_same, PySem.W.mg_of X G a_same⟩), k_same, b_same, PySem.W.mg_of X G a_same⟩), k_same, b_same, PySem.W.mg_of X G a_same⟩), k_same, b_same, PySem.W.mg_of X G a_same⟩), k_same, b_same, PySem.W.mg_of X G a_same⟩)
  have D_same : DefOk l.prog w K mg base 5 "_law_same" f_same _ ["_law_found", "_law_due_here"] (spSame 5) := ⟨O_same, k_same, b_same, PySem.W.mg_of X G a_same⟩
  have O_allw : FnOk l.prog w K mg base CX0 1 f_allw _ [] spAllW := ok_all_words F_allw T
  have D_all_words : DefOk l.prog w K mg base 1 "_law_all_words" f_allw _ [] spAllW := ⟨O_allw, k_allw, b_allw, PySem.W.mg_of X G a_allw⟩
  have O_somew : FnOk l.prog w K mg base CX0 3 f_somew _ ["_law_state", "_law_many"] spSomeWA := ok_some_wordsA F_somew T D_take D_all_words
  have D_some_words : DefOk l.prog w K mg base 3 "_law_some_words" f_somew _ ["_law_state", "_law_many"] spSomeWA := ⟨O_somew, k_somew, b_somew, PySem.W.mg_of X G a_somew⟩
  have O_parts : FnOk l.prog w K mg base CX0 1 f_parts _ [] spParts := ok_parts F_parts
  have D_parts : DefOk l.prog w K mg base 1 "_law_parts" f_parts _ [] spParts := ⟨O_parts, k_parts, b_parts, PySem.W.mg_of X G a_parts⟩
  have O_field : FnOk l.prog w K mg base CX0 4 f_field _ ["_law_state", "_law_called"] spField := ok_field F_field T D_parts D_one
  have D_field : DefOk l.prog w K mg base 4 "_law_field" f_field _ ["_law_state", "_law_called"] spField := ⟨O_field, k_field, b_field, PySem.W.mg_of X G a_field⟩
  have O_rule : FnOk l.prog w K mg base CX0 5 f_rule _ ["_law_state"] spRule := ok_rule F_rule D_take D_some_words D_one D_field
  have D_rule : DefOk l.prog w K mg base 5 "_law_rule" f_rule _ ["_law_state"] spRule := ⟨O_rule, k_rule, b_rule, PySem.W.mg_of X G a_rule⟩
  have O_isrow : FnOk l.prog w K mg base CX0 1 f_isrow _ ["x"] spIsRow := ok_is_row F_isrow T
  have D_is_row : DefOk l.prog w K mg base 1 "is_row" f_isrow _ ["x"] spIsRow := ⟨O_isrow, k_isrow, b_isrow, PySem.W.mg_of X G a_isrow⟩
  have O_isword : FnOk l.prog w K mg base CX0 1 f_isword _ ["x"] spIsWord := ok_is_word F_isword T TC
  have D_is_word : DefOk l.prog w K mg base 1 "is_word" f_isword _ ["x"] spIsWord := ⟨O_isword, k_isword, b_isword, PySem.W.mg_of X G a_isword⟩
  have O_TXinit : FnOk l.prog w K mg base CX0 1 f_TXinit _ ["self", "line"] (spErrI C_TX "line") := ok_bad_text F_TXinit TE_TX.T TE_TX.no
  have IE_TX : ErrI l.prog w K mg base C_TX f_TXinit _ "line" := ⟨O_TXinit, b_TXinit⟩
  have O_RUinit : FnOk l.prog w K mg base CX0 1 f_RUinit _ ["self", "index", "reason"] (spErrI2 C_RU "index" "reason") := ok_bad_rule F_RUinit TE_RU.T TE_RU.n1 TE_RU.n2
  have IE_RU : ErrI2 l.prog w K mg base C_RU f_RUinit _ "index" "reason" := ⟨O_RUinit, b_RUinit⟩
  have O_wrongw : FnOk l.prog w K mg base CX0 2 f_wrongw _ ["field", "names"] spWrongNo := ok_wrong_no F_wrongw T TR CC.at_ D_is_row D_is_word
  have D_wrong_with : DefOk l.prog w K mg base 2 "wrong_with" f_wrongw _ ["field", "names"] spWrongNo := ⟨O_wrongw, k_wrongw, b_wrongw, PySem.W.mg_of X G a_wrongw⟩
  have D_wrong_withE : DefOk l.prog w K mg base 2 "wrong_with" f_wrongw _ ["field", "names"] spWrongE := ⟨(FnOk.or' (ok_wrong_no F_wrongw T TR CC.at_ D_is_row D_is_word) (ok_wrong_dup F_wrongw T TR CC.at_ D_is_row D_is_word)), k_wrongw, b_wrongw, PySem.W.mg_of X G a_wrongw⟩
  have D_wrong_withT : DefOk l.prog w K mg base 2 "wrong_with" f_wrongw _ ["field", "names"] spWrongT := ⟨ok_wrong_t F_wrongw T TR CC D_is_row D_is_word, k_wrongw, b_wrongw, PySem.W.mg_of X G a_wrongw⟩
  have O_reqf : FnOk l.prog w K mg base CX0 3 f_reqf _ ["fields"] spReqFields := ok_req_fields F_reqf T D_is_row D_wrong_with
  have D_require_fields : DefOk l.prog w K mg base 3 "require_fields" f_reqf _ ["fields"] spReqFields := ⟨O_reqf, k_reqf, b_reqf, PySem.W.mg_of X G a_reqf⟩
  have DX_require_fields : DefOkX l.prog w K mg base 3 "require_fields" f_reqf _ ["fields"] (spReqDup C_RU) := ⟨ok_req_dup F_reqf T TE_RU IE_RU D_is_row D_wrong_withE, k_reqf, b_reqf, PySem.W.mg_of X G a_reqf⟩
  have O_pairs : FnOk l.prog w K mg base CX0 2 f_pairs _ ["show"] spPairS := ok_pair_shown F_pairs T TR hW D_is_row D_is_word
  have D_is_pair_shown : DefOk l.prog w K mg base 2 "is_pair_shown" f_pairs _ ["show"] spPairS := ⟨O_pairs, k_pairs, b_pairs, PySem.W.mg_of X G a_pairs⟩
  have D_is_pair_shownA : DefOk l.prog w K mg base 2 "is_pair_shown" f_pairs _ ["show"] spPairAny := ⟨ok_pair_any F_pairs T TR hW D_is_row D_is_word, k_pairs, b_pairs, PySem.W.mg_of X G a_pairs⟩
  have O_rlinit : FnOk l.prog w K mg base CX0 4 f_rlinit _ ["self", "fields", "show"] (spRlInit C_Rule) := ok_rl_init F_rlinit T WR D_require_fields D_is_pair_shown
  have K_Rule : ClsOk l.prog w K mg base 4 "Rule" C_Rule f_rlinit _ ["self", "fields", "show"] (spRlInit C_Rule) := ⟨O_rlinit, b_rlinit, ⟨mk_Rule, a_rlinit, i_rlinit, kc_Rule⟩, cl_Rule, mg_Rule⟩
  have KX_Rule : ClsOkX l.prog w K mg base 4 "Rule" C_Rule f_rlinit _ ["self", "fields", "show"] (spRlAny C_Rule C_RU) := ⟨FnOk.or' (FnOk.or' (FnOk.x O_rlinit) (ok_rl_dup F_rlinit T DX_require_fields D_is_pair_shown)) (ok_rl_noshow F_rlinit T TE_RU IE_RU D_require_fields D_is_pair_shown), b_rlinit, ⟨mk_Rule, a_rlinit, i_rlinit, kc_Rule⟩, cl_Rule, mg_Rule⟩
  have O_rlfields : FnOk l.prog w K mg base CX0 1 f_rlfields _ ["self"] (spRlFields C_Rule) := ok_rl_fields F_rlfields T WR
  have M_Rule_fields : MetOk l.prog w K mg base 1 C_Rule "fields" f_rlfields _ ["self"] (spRlFields C_Rule) := ⟨O_rlfields, b_rlfields, ⟨a_rlfields, i_rlfields, k_rlfields⟩, cl_Rule⟩
  have O_rlshow : FnOk l.prog w K mg base CX0 1 f_rlshow _ ["self"] (spRlShow C_Rule) := ok_rl_show F_rlshow T WR
  have M_Rule_show : MetOk l.prog w K mg base 1 C_Rule "show" f_rlshow _ ["self"] (spRlShow C_Rule) := ⟨O_rlshow, b_rlshow, ⟨a_rlshow, i_rlshow, k_rlshow⟩, cl_Rule⟩
  have O_lnf : FnOk l.prog w K mg base CX0 1 f_lnf _ ["field"] spLnF := ok_line_f F_lnf T TR CC
  have D_line_of_field : DefOk l.prog w K mg base 1 "line_of_field" f_lnf _ ["field"] spLnF := ⟨O_lnf, k_lnf, b_lnf, PySem.W.mg_of X G a_lnf⟩
  have O_lns : FnOk l.prog w K mg base CX0 1 f_lns _ ["show"] spLnS := ok_line_s F_lns T
  have D_line_of_show : DefOk l.prog w K mg base 1 "line_of_show" f_lns _ ["show"] spLnS := ⟨O_lns, k_lns, b_lns, PySem.W.mg_of X G a_lns⟩
  have O_lines : FnOk l.prog w K mg base CX0 1 f_lines _ ["text"] spLines := ok_lines_of F_lines
  have D_lines_of : DefOk l.prog w K mg base 1 "lines_of" f_lines _ ["text"] spLines := ⟨O_lines, k_lines, b_lines, PySem.W.mg_of X G a_lines⟩
  have O_fol : FnOk l.prog w K mg base CX0 3 f_fol _ ["line"] spFieldAny := ok_field_any F_fol T D_wrong_withT D_line_of_field
  have D_field_of_line : DefOk l.prog w K mg base 3 "field_of_line" f_fol _ ["line"] spFieldAny := ⟨O_fol, k_fol, b_fol, PySem.W.mg_of X G a_fol⟩
  have O_sol : FnOk l.prog w K mg base CX0 3 f_sol _ ["line"] spShowAny := ok_show_any F_sol T D_is_pair_shownA D_line_of_show
  have D_show_of_line : DefOk l.prog w K mg base 3 "show_of_line" f_sol _ ["line"] spShowAny := ⟨O_sol, k_sol, b_sol, PySem.W.mg_of X G a_sol⟩
  have O_oft : FnOk l.prog w K mg base (L2.CX l.prog w) 6 f_oft _ ["cls", "text"] (spTextAny C_Rule C_TX C_RU) := ok_text_any F_oft T TR TE_TX IE_TX D_lines_of D_field_of_line D_show_of_line KX_Rule
  have M_of_text : CmOkX l.prog w K mg base 6 C_Rule (.type "type") "of_text" p_oft f_oft _ ["cls", "text"] (spTextAny C_Rule C_TX C_RU) := ⟨O_oft, b_oft, ⟨rd_Rule, ga_Rule⟩, ⟨x_oft, ⟨_, y_oft⟩, z_oft⟩⟩
  have O_lline : FnOk l.prog w K mg base CX0 1 f_lline _ ["_law_row"] spLineL := ok_line_l F_lline T
  have D_line : DefOk l.prog w K mg base 1 "_law_line" f_lline _ ["_law_row"] spLineL := ⟨O_lline, k_lline, b_lline, PySem.W.mg_of X G a_lline⟩
  have O_ltext : FnOk l.prog w K mg base CX0 2 f_ltext _ ["_law_rows", "_law_shown"] spTextL := ok_text_l F_ltext T D_line
  have D_text : DefOk l.prog w K mg base 2 "_law_text" f_ltext _ ["_law_rows", "_law_shown"] spTextL := ⟨O_ltext, k_ltext, b_ltext, PySem.W.mg_of X G a_ltext⟩
  have O_lisword : FnOk l.prog w K mg base CX0 1 f_lisword _ ["_law_x"] spLIsW := ok_lis_word F_lisword T
  have D_lis_word : DefOk l.prog w K mg base 1 "_law_is_word" f_lisword _ ["_law_x"] spLIsW := ⟨O_lisword, k_lisword, b_lisword, PySem.W.mg_of X G a_lisword⟩
  have O_fieldof : FnOk l.prog w K mg base CX0 2 f_fieldof _ ["_law_line_here"] spLField := ok_field_of F_fieldof T D_lis_word D_parts
  have D_field_of : DefOk l.prog w K mg base 2 "_law_field_of" f_fieldof _ ["_law_line_here"] spLField := ⟨O_fieldof, k_fieldof, b_fieldof, PySem.W.mg_of X G a_fieldof⟩
  have O_isshow : FnOk l.prog w K mg base CX0 2 f_isshow _ ["_law_line_here"] spLShow := ok_is_show F_isshow T D_lis_word
  have D_is_show : DefOk l.prog w K mg base 2 "_law_is_show" f_isshow _ ["_law_line_here"] spLShow := ⟨O_isshow, k_isshow, b_isshow, PySem.W.mg_of X G a_isshow⟩
  have O_rdue : FnOk l.prog w K mg base CX0 1 f_rdue _ ["_law_rows", "_law_words"] spRuleDue := ok_rule_due F_rdue T
  have D_rule_due : DefOk l.prog w K mg base 1 "_law_rule_due" f_rdue _ ["_law_rows", "_law_words"] spRuleDue := ⟨O_rdue, k_rdue, b_rdue, PySem.W.mg_of X G a_rdue⟩
  have O_due : FnOk l.prog w K mg base CX0 3 f_due _ ["_law_text_here"] spDue24 := ok_due F_due T D_field_of D_is_show D_rule_due
  have D_due : DefOk l.prog w K mg base 3 "_law_due" f_due _ ["_law_text_here"] spDue24 := ⟨O_due, k_due, b_due, PySem.W.mg_of X G a_due⟩
  have O_sptext : FnOk l.prog w K mg base CX0 4 f_sptext _ ["_law_state", "_law_text_here"] spSpoil24 := ok_spoilt F_sptext T D_take D_one
  have D_spoilt_text : DefOk l.prog w K mg base 4 "_law_spoilt_text" f_sptext _ ["_law_state", "_law_text_here"] spSpoil24 := ⟨O_sptext, k_sptext, b_sptext, PySem.W.mg_of X G a_sptext⟩
  exact ok_law F_law rfl T TI F_tried b_tried (PySem.W.mg_of X G a_tried) TE_TX TE_RU subRUTX TB_law (List.mem_cons_self ..) (fun p hp _ => by rw [List.mem_singleton.mp hp]) D_fresh D_take D_rule D_text D_field D_line D_spoilt_text D_same D_due M_Rule_fields M_Rule_show M_of_text
theorem walk {l : PySem.W.OpenLaw} {q : Program} {loose : List Str} {XP : (Str → Option Value) → Heap → Prop} {YP : World → Heap → Prop} {d : DefRec} {K : Params → PySem.W.Frag} (hn : l.most = some 63) (hdf : d.params.defaults = [])
    (hY : ∀ (w : World) (h : Heap), YP w h → (K w.params).In h)
    (F : ∀ (w : World) (mg : Str → Option Value) (fa : Addr) (h : Heap), YP w h → (K w.params).In h → h.Ns mainGlobals mg → mg d.name = some (.ref fa) → LamX.LawAtS l w (K w.params) CX0 10 63 "_law_script" mg fa h) :
    PySem.W.WalkO q loose XP YP l.row.toRowW d [] (fun f vs => PySem.call f vs) :=
  LamX.walk_ofTs (n := 63) (k := 10) (x := "_law_script") (CX := fun _ => CX0) hn (by decide) hdf ⟨rfl, by decide, by decide⟩ hY F fun _ _ _ _ _ z => z
end Lm

open PySem PySem.W PyProof.Rows
set_option maxRecDepth 100000 in
set_option maxHeartbeats 0 in
theorem PySem.Challenge.cw_leafmarks_k24_rule_texts_refused_holds : PySem.Challenge.rw_leafmarks_k24_rule_texts_refused.Holds := by
  w_on; o_law; k_head; (case hw => w_witness2)
  k_fill
  refine Lm.walk (l := PySem.Challenge.rw_leafmarks_k24_rule_texts_refused) rfl rfl (fun w h Y => PySem.W.km_in_of Y) ?F
  case F =>
    intro w mg fa h YY KX G hmg
    refine' Lm.all_mk KX G hmg ?a_Rule ?pg_Rule ?hd_Rule ?po_Rule ?sa_Rule ?mk_Rule ?kc_Rule ?n_Rule_rows ?n_Rule_way ?n_Rule_at ?ha_Rule ?hn_Rule ?htk_Rule ?hm_Rule ?rd_Rule ?ga_Rule ?a_fresh ?l_fresh ?c_fresh ?k_fresh ?a_fill ?l_fill ?c_fill ?k_fill ?a_take ?l_take ?c_take ?k_take ?a_one ?l_one ?c_one ?k_one ?a_same ?l_same ?c_same ?k_same ?a_allw ?l_allw ?c_allw ?k_allw ?a_somew ?l_somew ?c_somew ?k_somew ?a_parts ?l_parts ?c_parts ?k_parts ?a_field ?l_field ?c_field ?k_field ?a_rule ?l_rule ?c_rule ?k_rule ?a_isrow ?l_isrow ?c_isrow ?k_isrow ?a_isword ?l_isword ?c_isword ?k_isword ?aTX ?oTX ?rTX ?sTX ?bTX ?tTX ?kTX ?gaTX ?ggTX ?hdTX ?iTX ?tyTX ?noTX ?icTX ?seTX ?l_TXinit ?c_TXinit ?k_TXinit ?aRU ?oRU ?rRU ?sRU ?bRU ?tRU ?kRU ?gaRU ?ggRU ?hdRU ?iRU ?tyRU ?icRU ?seRU ?subRUTX ?noRU ?npRU ?l_RUinit ?c_RUinit ?k_RUinit ?a_wrongw ?l_wrongw ?c_wrongw ?k_wrongw ?a_reqf ?l_reqf ?c_reqf ?k_reqf ?a_pairs ?l_pairs ?c_pairs ?k_pairs ?a_rlinit ?i_rlinit ?l_rlinit ?c_rlinit ?k_rlinit ?a_rlfields ?i_rlfields ?l_rlfields ?c_rlfields ?k_rlfields ?a_rlshow ?i_rlshow ?l_rlshow ?c_rlshow ?k_rlshow ?a_lnf ?l_lnf ?c_lnf ?k_lnf ?a_lns ?l_lns ?c_lns ?k_lns ?a_lines ?l_lines ?c_lines ?k_lines ?a_fol ?l_fol ?c_fol ?k_fol ?a_sol ?l_sol ?c_sol ?k_sol ?x_oft ?y_oft ?z_oft ?l_oft ?c_oft ?k_oft ?a_lline ?l_lline ?c_lline ?k_lline ?a_ltext ?l_ltext ?c_ltext ?k_ltext ?a_tried ?l_tried ?c_tried ?k_tried ?a_lisword ?l_lisword ?c_lisword ?k_lisword ?a_fieldof ?l_fieldof ?c_fieldof ?k_fieldof ?a_isshow ?l_isshow ?c_isshow ?k_isshow ?a_rdue ?l_rdue ?c_rdue ?k_rdue ?a_due ?l_due ?c_due ?k_due ?a_sptext ?l_sptext ?c_sptext ?k_sptext ?a_law ?l_law ?c_law ?k_law ?lz_law ?vz_law ?hz_law ?nz_law ?tz_law ?g_LETTERS ?g_LONGEST_WORD ?g_MOST_FIELDS ?g_COLUMNS ?g_WAYS ?z_len ?z_int ?z_range ?z_enumerate ?z_isinstance ?z_list ?z_tuple ?z_str ?z_bool ?z_all ?z_max ?z_zip ?kW0 ?kC0 ?kc1 ?kc2 ?kc3 ?kc4 ?kc5 ?kc6 ?ke1 ?ke2 ?ke3 ?ke4 ?ke5 ?ke6
    (case a_Rule => k_is)
    (case pg_Rule => k_is)
    (case hd_Rule => k_is)
    (case po_Rule => k_is)
    (case sa_Rule => k_is)
    (case mk_Rule => k_is)
    (case kc_Rule => k_is)
    (case n_Rule_rows => k_is)
    (case n_Rule_way => k_is)
    (case n_Rule_at => k_is)
    (case ha_Rule => k_is)
    (case hn_Rule => k_is)
    (case htk_Rule => k_is)
    (case hm_Rule => k_is)
    (case rd_Rule => k_is)
    (case ga_Rule => k_is)
    (case a_fresh => k_is)
    (case l_fresh => k_is)
    (case c_fresh => k_is)
    (case k_fresh => k_is)
    (case a_fill => k_is)
    (case l_fill => k_is)
    (case c_fill => k_is)
    (case k_fill => k_is)
    (case a_take => k_is)
    (case l_take => k_is)
    (case c_take => k_is)
    (case k_take => k_is)
    (case a_one => k_is)
    (case l_one => k_is)
    (case c_one => k_is)
    (case k_one => k_is)
    (case a_same => k_is)
    (case l_same => k_is)
    (case c_same => k_is)
    (case k_same => k_is)
    (case a_allw => k_is)
    (case l_allw => k_is)
    (case c_allw => k_is)
    (case k_allw => k_is)
    (case a_somew => k_is)
    (case l_somew => k_is)
    (case c_somew => k_is)
    (case k_somew => k_is)
    (case a_parts => k_is)
    (case l_parts => k_is)
    (case c_parts => k_is)
    (case k_parts => k_is)
    (case a_field => k_is)
    (case l_field => k_is)
    (case c_field => k_is)
    (case k_field => k_is)
    (case a_rule => k_is)
    (case l_rule => k_is)
    (case c_rule => k_is)
    (case k_rule => k_is)
    (case a_isrow => k_is)
    (case l_isrow => k_is)
    (case c_isrow => k_is)
    (case k_isrow => k_is)
    (case a_isword => k_is)
    (case l_isword => k_is)
    (case c_isword => k_is)
    (case k_isword => k_is)
    (case aTX => k_is)
    (case oTX => k_is)
    (case rTX => rfl)
    (case sTX => k_is)
    (case bTX => k_is)
    (case tTX => k_is)
    (case kTX => k_is)
    (case gaTX => k_is)
    (case ggTX => k_is)
    (case hdTX => k_is)
    (case iTX => k_is)
    (case tyTX => k_is)
    (case noTX => k_is)
    (case icTX => k_is)
    (case seTX => k_is)
    (case l_TXinit => k_is)
    (case c_TXinit => k_is)
    (case k_TXinit => k_is)
    (case aRU => k_is)
    (case oRU => k_is)
    (case rRU => rfl)
    (case sRU => k_is)
    (case bRU => k_is)
    (case tRU => k_is)
    (case kRU => k_is)
    (case gaRU => k_is)
    (case ggRU => k_is)
    (case hdRU => k_is)
    (case iRU => k_is)
    (case tyRU => k_is)
    (case icRU => k_is)
    (case seRU => k_is)
    (case subRUTX => k_is)
    (case noRU => k_is)
    (case npRU => k_is)
    (case l_RUinit => k_is)
    (case c_RUinit => k_is)
    (case k_RUinit => k_is)
    (case a_wrongw => k_is)
    (case l_wrongw => k_is)
    (case c_wrongw => k_is)
    (case k_wrongw => k_is)
    (case a_reqf => k_is)
    (case l_reqf => k_is)
    (case c_reqf => k_is)
    (case k_reqf => k_is)
    (case a_pairs => k_is)
    (case l_pairs => k_is)
    (case c_pairs => k_is)
    (case k_pairs => k_is)
    (case a_rlinit => k_is)
    (case i_rlinit => k_is)
    (case l_rlinit => k_is)
    (case c_rlinit => k_is)
    (case k_rlinit => k_is)
    (case a_rlfields => k_is)
    (case i_rlfields => k_is)
    (case l_rlfields => k_is)
    (case c_rlfields => k_is)
    (case k_rlfields => k_is)
    (case a_rlshow => k_is)
    (case i_rlshow => k_is)
    (case l_rlshow => k_is)
    (case c_rlshow => k_is)
    (case k_rlshow => k_is)
    (case a_lnf => k_is)
    (case l_lnf => k_is)
    (case c_lnf => k_is)
    (case k_lnf => k_is)
    (case a_lns => k_is)
    (case l_lns => k_is)
    (case c_lns => k_is)
    (case k_lns => k_is)
    (case a_lines => k_is)
    (case l_lines => k_is)
    (case c_lines => k_is)
    (case k_lines => k_is)
    (case a_fol => k_is)
    (case l_fol => k_is)
    (case c_fol => k_is)
    (case k_fol => k_is)
    (case a_sol => k_is)
    (case l_sol => k_is)
    (case c_sol => k_is)
    (case k_sol => k_is)
    (case x_oft => k_is)
    (case y_oft => k_is)
    (case z_oft => k_is)
    (case l_oft => k_is)
    (case c_oft => k_is)
    (case k_oft => k_is)
    (case a_lline => k_is)
    (case l_lline => k_is)
    (case c_lline => k_is)
    (case k_lline => k_is)
    (case a_ltext => k_is)
    (case l_ltext => k_is)
    (case c_ltext => k_is)
    (case k_ltext => k_is)
    (case a_tried => k_is)
    (case l_tried => k_is)
    (case c_tried => k_is)
    (case k_tried => k_is)
    (case a_lisword => k_is)
    (case l_lisword => k_is)
    (case c_lisword => k_is)
    (case k_lisword => k_is)
    (case a_fieldof => k_is)
    (case l_fieldof => k_is)
    (case c_fieldof => k_is)
    (case k_fieldof => k_is)
    (case a_isshow => k_is)
    (case l_isshow => k_is)
    (case c_isshow => k_is)
    (case k_isshow => k_is)
    (case a_rdue => k_is)
    (case l_rdue => k_is)
    (case c_rdue => k_is)
    (case k_rdue => k_is)
    (case a_due => k_is)
    (case l_due => k_is)
    (case c_due => k_is)
    (case k_due => k_is)
    (case a_sptext => k_is)
    (case l_sptext => k_is)
    (case c_sptext => k_is)
    (case k_sptext => k_is)
    (case a_law => k_is)
    (case l_law => k_is)
    (case c_law => k_is)
    (case k_law => k_is)
    (case lz_law => k_is)
    (case vz_law => rfl)
    (case hz_law => kernel_rfl)
    (case nz_law => first | k_is | kernel_rfl)
    (case tz_law => exact PySem.W.km_tabs_of YY _ (by k_mem))
    (case g_LETTERS => k_is)
    (case g_LONGEST_WORD => k_is)
    (case g_MOST_FIELDS => k_is)
    (case g_COLUMNS => k_is)
    (case g_WAYS => k_is)
    (case z_len => k_is)
    (case z_int => k_is)
    (case z_range => k_is)
    (case z_enumerate => k_is)
    (case z_isinstance => k_is)
    (case z_list => k_is)
    (case z_tuple => k_is)
    (case z_str => k_is)
    (case z_bool => k_is)
    (case z_all => k_is)
    (case z_max => k_is)
    (case z_zip => k_is)
    (case kW0 => k_is)
    (case kC0 => k_is)
    (case kc1 => k_is)
    (case kc2 => k_is)
    (case kc3 => k_is)
    (case kc4 => k_is)
    (case kc5 => k_is)
    (case kc6 => k_is)
    (case ke1 => k_is)
    (case ke2 => k_is)
    (case ke3 => k_is)
    (case ke4 => k_is)
    (case ke5 => k_is)
    (case ke6 => k_is)
