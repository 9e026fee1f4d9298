import PyProof.Rows.All
import Wide.All
import OpenK.AllK
import Wide.FinOn
import PyProof.EqKinds
import HandS.ForMost
import HandS.IsInst
import HandS.OwnEq
import PyProof.InstNe
import PyProof.Draws
import KE.GoesEnum
import KE.GoesMore
import KE.KOpsOwn
import HandS.Walk
import HandS.Conv
import HandS.Evl
import HandS.Zip
import HandS.Property
import HandS.MakeKwOnly
import HandS.Style
import PyProof.Rows.All
import Wide.All
import OpenK.AllK
import Wide.FinOn
import HandS.ForMost
import HandS.IsInst
import HandS.OwnEq
import PyProof.InstNe
import PyProof.Draws
import KE.GoesEnum
import KE.GoesMore
import HandS.Walk
import HandS.Conv
import KE.KOpsOwn
import HandS.Property
import PyProof.EqKinds
import HandS.MakeKwOnly
import HandS.Style
import HandS.Zip
import HandS.WordsExc
import HandS.ExcOwn
import HandS.TryOnly
import HandS.TupMul
import HandS.ExcInit
import HandS.ExcField
import HandS.Evl
import KE.KCallOwn
import HandS.Lambda
import HandS.TryMany
import PyProof.CollectIter
import KE.GoesEnumKw
import PyProof.StrOps2
import HandS.Text
import HandS.StrMore
import HandS.RaiseMore
import HandS.FStr
import HandS.Star
import HandS.Dict
import HandS.Nested
import HandS.NestedK
import HandS.ClsMeth
import HandS.ExcValue
import HandS.MakeKw
import HandS.DictComp
import KE.KEqNest
import KE.KExcIs
import KE.KDictLaw
import KE.IntTextLaws
import PyProof.Rows.StrCut
import PySem.Challenge.RW_leafmarks_k01_errors_made
set_option Elab.async false
set_option linter.all false
set_option maxRecDepth 100000
set_option maxHeartbeats 16000000
namespace Lm
open PySem L2
section
variable {X : Cx} {CX : CXT} {k : Nat} {f C : Addr} {fd : FuncData} {ps : List Str} {sp : Sp} {E : XK} {pins : List (Addr × Obj)} {σ : St} {H : Hp} {s : Shared}
/-- the callee runs under another around of the same frames -/
theorem run_in {A : Around} {Q : VK} {us : List Value} {vs : List V} (F : FnOk X.prog X.w X.K X.mg X.base CX k f fd ps sp) (hr : Room k A) (e0 : Env0 X.prog X.w X.K X.mg X.base A X.stack s H) (hb : Binds X.K fd ps [])
    (hx : Passes CX X E) (I : Inv X pins σ H s) (r : Vals vs us) (h : sp vs H Q E) : wpAny (model X.prog X.w) A (call (.ref f) us) (EP X pins σ Q) X.xe s := by
  have hl : us.length = ps.length := by rw [← r.length]; exact F.len _ _ _ _ h
  have hb' : BindsTo s fd ⟨us, []⟩ (ps.zip us) := by
    have := hb s us I.kIn (by simpa using hl)
    simpa using this
  refine wpAny_call (codeAny_mono (F.run A X.stack s H ⟨us, []⟩ us vs Q E hr e0 hb' r h) fun r s' hq => ?_)
  cases r with
  | error e => exact hx pins σ H s e s' I hq
  | ok fl =>
    cases fl with
    | ret u => exact I.after hq
    | next => exact False.elim hq
    | brk => exact False.elim hq
    | cont => exact False.elim hq
/-- len(x), x an instance with its own __len__ -/
def rLenOwn (C : Addr) (sp : Sp) (E : XK) : List V → Hp → VK → Prop := fun xs H Q => ∃ a dx fs, xs = [.ref a] ∧ H a = some (.ins C dx fs) ∧
  sp [.ref a] H (fun z H' => ∃ n : Nat, z = .int n ∧ n < 2 ^ 62 ∧ Q (.int n) H') E
theorem call_lenOwn (F : FnOk X.prog X.w X.K X.mg X.base CX k f fd ps sp) (hs : PySem.W.findIn X.K (.ref C) "__len__" = some (some (.ref f))) (hf : PySem.W.isFn X.K (.ref f) = true) (hb : Binds X.K fd ps []) (hr : Room (k + 1) X.A) (hx : Passes CX X E) :
    CallR X (.builtin "len") (rLenOwn C sp E) := by
  intro pins s σ H xs us Q I r h
  obtain ⟨a, dx, fs, rfl, ha, q⟩ := h
  obtain ⟨u, rfl, ru⟩ := r.one
  cases (show u = Value.ref a from ru)
  obtain ⟨mA, J, _⟩ := ins_get I.hok ha
  obtain ⟨od, J, _⟩ := J.look
  obtain ⟨m, hF⟩ := I.fr
  refine PySem.W.len_K hF I.ok.mod.kin J hs hf (wpAny_mono (run_in (us := [.ref a]) (vs := [.ref a]) F hr.in1 I.env0.in1 hb hx I (.cons rfl .nil) q) (fun w s' z => ?_) fun _ _ x => x)
  obtain ⟨z', H', I', rz, n, ez, hn, qz⟩ := z
  subst ez
  obtain ⟨t, e⟩ := (show ∃ t, w = Value.int n t from rz)
  subst e
  refine ⟨⟨by omega, by omega⟩, .int n, H', I'.tok _, ⟨_, rfl⟩, qz⟩
/-- x in y, y an instance with its own __contains__ -/
def rInOwn (C : Addr) (sp : Sp) (E : XK) (neg : Bool) : R2 := fun x y H Q => ∃ a dx fs, y = .ref a ∧ H a = some (.ins C dx fs) ∧
  sp [y, x] H (fun z H' => ∃ b : Bool, z = .bl b ∧ Q (.bl (if neg then !b else b)) H') E
theorem op_inOwn (F : FnOk X.prog X.w X.K X.mg X.base CX k f fd ps sp) (hs : PySem.W.findIn X.K (.ref C) "__contains__" = some (some (.ref f))) (hf : PySem.W.isFn X.K (.ref f) = true) (hb : Binds X.K fd ps []) (hr : Room k X.A) (hx : Passes CX X E) :
    OpR X (compareOp .In) (rInOwn C sp E false) := by
  intro pins s σ H x y v u Q I rx ry h
  obtain ⟨a, dx, fs, rfl, ha, q⟩ := h
  cases (show u = Value.ref a from ry)
  obtain ⟨mA, J, _⟩ := ins_get I.hok ha
  obtain ⟨od, J, _⟩ := J.look
  obtain ⟨m, hF⟩ := I.fr
  refine PySem.W.in_K hF I.ok.mod.kin J hs hf (wpAny_mono (run_in (us := [.ref a, v]) (vs := [.ref a, x]) F hr I.env0 hb hx I (.cons rfl (.cons rx .nil)) q) (fun w s' z => ?_) fun _ _ x => x)
  obtain ⟨z', H', I', rz, b, ez, qz⟩ := z
  subst ez
  cases (show w = Value.bool b from rz)
  exact wpAny_truthy_bool ⟨.bl _, H', I', rfl, qz⟩
theorem op_notInOwn (F : FnOk X.prog X.w X.K X.mg X.base CX k f fd ps sp) (hs : PySem.W.findIn X.K (.ref C) "__contains__" = some (some (.ref f))) (hf : PySem.W.isFn X.K (.ref f) = true) (hb : Binds X.K fd ps []) (hr : Room k X.A) (hx : Passes CX X E) :
    OpR X (compareOp .NotIn) (rInOwn C sp E true) := by
  intro pins s σ H x y v u Q I rx ry h
  obtain ⟨a, dx, fs, rfl, ha, q⟩ := h
  cases (show u = Value.ref a from ry)
  obtain ⟨mA, J, _⟩ := ins_get I.hok ha
  obtain ⟨od, J, _⟩ := J.look
  obtain ⟨m, hF⟩ := I.fr
  refine PySem.W.notIn_K hF I.ok.mod.kin J hs hf (wpAny_mono (run_in (us := [.ref a, v]) (vs := [.ref a, x]) F hr I.env0 hb hx I (.cons rfl (.cons rx .nil)) q) (fun w s' z => ?_) fun _ _ x => x)
  obtain ⟨z', H', I', rz, b, ez, qz⟩ := z
  subst ez
  cases (show w = Value.bool b from rz)
  exact wpAny_truthy_bool ⟨.bl _, H', I', rfl, qz⟩
theorem cmpBack {P : Value → Shared → Prop} {z : V} {v : Value} {s' : Shared} (r : RelV z v) (h : P v s') : PySem.W.CmpBack P v s' := by
  cases z with
  | non => cases (show v = Value.none from r); exact h
  | bl b => cases (show v = Value.bool b from r); exact h
  | int i => obtain ⟨t, e⟩ := (show ∃ t, v = Value.int i t from r); cases e; exact h
  | str i => obtain ⟨t, e⟩ := (show ∃ t, v = Value.str i t from r); cases e; exact h
  | byt i => obtain ⟨t, e⟩ := (show ∃ t, v = Value.bytes i t from r); cases e; exact h
  | flt i => obtain ⟨t, e⟩ := (show ∃ t, v = Value.float i t from r); cases e; exact h
  | ref a => cases (show v = Value.ref a from r); exact h
  | ty n => cases (show v = Value.type n from r); exact h
/-- x op y, both instances of the class at C that has its own def for it -/
def rBinOwn (C : Addr) (sp : Sp) (E : XK) : R2 := fun x y H Q => ∃ a dx fs b dy gs, x = .ref a ∧ y = .ref b ∧ H a = some (.ins C dx fs) ∧ H b = some (.ins C dy gs) ∧ sp [x, y] H Q E
theorem op_binOwn {op : Operator} (F : FnOk X.prog X.w X.K X.mg X.base CX k f fd ps sp) (hc : PySem.W.selfFirst X.K C = true) (hs : PySem.W.findIn X.K (.ref C) (PySem.dunder op.info.2) = some (some (.ref f))) (hf : PySem.W.isFn X.K (.ref f) = true) (hb : Binds X.K fd ps []) (hr : Room k X.A) (hx : Passes CX X E) :
    OpR X (binaryOp op) (rBinOwn C sp E) := by
  intro pins s σ H x y v u Q I rx ry h
  obtain ⟨a, dx, fs, b, dy, gs, rfl, rfl, ha, hb', q⟩ := h
  cases (show v = Value.ref a from rx)
  cases (show u = Value.ref b from ry)
  obtain ⟨mA, J, _⟩ := ins_get I.hok ha
  obtain ⟨mB, J', _⟩ := ins_get I.hok hb'
  obtain ⟨od, J, _⟩ := J.look
  obtain ⟨od', J', _⟩ := J'.look
  obtain ⟨m, hF⟩ := I.fr
  refine PySem.W.binop_K hF I.ok.mod.kin J J'.type hc hs hf (wpAny_mono (run_in (us := [.ref a, .ref b]) (vs := [.ref a, .ref b]) F hr I.env0 hb hx I (.cons rfl (.cons rfl .nil)) q) (fun w s' z => ?_) fun _ _ x => x)
  obtain ⟨z', H', I', rz, qz⟩ := z
  exact cmpBack rz ⟨z', H', I', rz, qz⟩
theorem op_cmpOwn {op : CmpOp} (hop : ∀ a b, compareOp op a b = richCompare op a b) (F : FnOk X.prog X.w X.K X.mg X.base CX k f fd ps sp) (hs : PySem.W.findIn X.K (.ref C) (cmpInfo op).2.1 = some (some (.ref f))) (hf : PySem.W.isFn X.K (.ref f) = true) (hb : Binds X.K fd ps []) (hr : Room k X.A) (hx : Passes CX X E) :
    OpR X (compareOp op) (rBinOwn C sp E) := by
  intro pins s σ H x y v u Q I rx ry h
  obtain ⟨a, dx, fs, b, dy, gs, rfl, rfl, ha, hb', q⟩ := h
  cases (show v = Value.ref a from rx)
  cases (show u = Value.ref b from ry)
  obtain ⟨mA, J, _⟩ := ins_get I.hok ha
  obtain ⟨mB, J', _⟩ := ins_get I.hok hb'
  obtain ⟨od, J, _⟩ := J.look
  obtain ⟨od', J', _⟩ := J'.look
  obtain ⟨m, hF⟩ := I.fr
  rw [hop]
  refine PySem.W.cmp_K (op := op) (tb := .ref C) hr.units0 hF I.ok.mod.kin J J'.type (by simp [PySem.W.notFirst]) hs hf (wpAny_mono (run_in (us := [.ref a, .ref b]) (vs := [.ref a, .ref b]) F hr I.env0 hb hx I (.cons rfl (.cons rfl .nil)) q) (fun w s' z => ?_) fun _ _ x => x)
  obtain ⟨z', H', I', rz, qz⟩ := z
  exact cmpBack rz ⟨z', H', I', rz, qz⟩
end
end Lm

namespace Lm
open PySem PySem.W PySem.Calls PyProof.Rows
section
variable {prog : Program} {w : World} {A : Around} {E : Value → Shared → Prop} {s : Shared} {K : Frag} {x C L f : Addr} {h₀ : Heap} {m : Str → Option Value} {ox : Obj} {od : Option Obj} {b tb : Value}
/-- != of an instance whose class has an own == and no own != -/
theorem ne_own {Q : Value → Shared → Prop} (hu : A.units + 1 < cLine) (Fr' : Fr h₀ L s.heap m) (X₀ : K.In h₀) (I : InstAt s.heap x ox C od) (hb : Looks (model prog w) s.heap (typeOf b) tb) (hn : notFirst K C tb = true)
    (hne : findIn K (.ref C) "__ne__" = some (some (.builtin "object.__ne__"))) (hobj : subIn K (.ref C) (.type "object") = some true)
    (hs : findIn K (.ref C) "__eq__" = some (some (.ref f))) (hf : isFn K (.ref f) = true)
    (h : wpAny (model prog w) A.in1 (call (.ref f) [.ref x, b]) (fun v s' => ∃ k, v = .bool k ∧ Q (.bool (!k)) s') E s) : wpAny (model prog w) A (richCompare .NotEq (.ref x) b) Q E s := by
  have X := X₀.keeps Fr'.keep
  have fin : ∀ (Q' : Option Value → Shared → Prop), (∀ k s', Q (.bool (!k)) s' → Q' (some (.bool (!k))) s') →
      wpAny (model prog w) A (call (.builtin "object.__ne__") ([.ref x] ++ [b]) >>= fun v => pure (some v)) Q' E s := by
    intro Q' hQ
    refine wpAny_bind (wpAny_call (codeAny_call_builtin PySem.F.cmp_object.ne.plain PySem.F.cmpEntry_ne ?_))
    refine @check_slot (model prog w) _ _ _ "object.__ne__" "object" "__ne__" (.ref x) [b] [] _ PySem.F.cmpKind_ne PySem.F.cmpSplit_ne (I.type.andThen (looks_subIn X hobj)) (PySem.F.cmpArgs_ne _ _) ?_
    unfold Builtin.«object.__ne__»
    repeat (first
      | with_reducible refine wpAny_cRoomFor hu ?_
      | (refine wpAny_bind (m := callSpecialIfBound? (.ref x) (Str.ofString "__eq__") [b])
          (ifBound_K X I hs hf (wpAny_mono h (fun r s' hr => by
            obtain ⟨k, rfl, hq⟩ := hr
            repeat (first | exact ⟨_, rfl, wpAny_pure (hQ k s' hq)⟩ | exact wpAny_pure (hQ k s' hq) | exact hQ k s' hq | exact wpAny_truthy_bool (hQ k s' hq) | (refine wpAny_bind (m := truthy (.bool _)) (wpAny_truthy_bool ?_)) | wp_step)) fun _ _ e => e)))
      | wp_step)
  have one : wpAny (model prog w) A (tryCompare (.ref x) "__ne__" b) (fun r s' => ∃ v, r = some v ∧ Q v s') E s := by
    simp only [tryCompare]
    refine wpAny_bind ?_
    simp only [callSpecialIfBound?, bindSpecialIfBound?]
    refine wpAny_holding (wpAny_bind (wpAny_bind (wpAny_bind (I.type.here ((looks_findIn X hne).here ?_)))))
    refine wpAny_bind (wpAny_askSetting (wpAny_ite ?_))
    split
    · refine wpAny_bind ?_
      rw [PySem.F.cmp_object.ne.bind]
      refine wpAny_pure (wpAny_pure ?_)
      show wpAny _ _ (call _ _ >>= fun v => pure (some v)) _ _ _
      exact fin _ fun k s' q => wpAny_pure ⟨_, rfl, q⟩
    · refine wpAny_tryCatch (wpAny_bind ?_)
      rw [PySem.F.cmp_object.ne.bind]
      refine wpAny_pure (wpAny_pure ?_)
      show wpAny _ _ (call _ _ >>= fun v => pure (some v)) _ _ _
      exact fin _ fun k s' q => wpAny_pure ⟨_, rfl, q⟩
  unfold richCompare
  simp only [oneThing_ref]
  refine wpAny_holding (wpAny_bind (wpAny_cRoomFor (Nat.lt_of_succ_lt hu) ?_))
  refine wpAny_bind (I.type.here (wpAny_bind (hb.here ?_)))
  split
  · rename_i q
    have e : subIn K tb (.ref C) = some false := by
      rcases Bool.or_eq_true_iff.mp hn with e | e
      · rw [beq_iff_eq.mp e] at q; simp at q
      · exact beq_iff_eq.mp e
    refine wpAny_bind ((looks_subIn X e).here ?_)
    simp only [Bool.false_eq_true, if_false]
    refine wpAny_bind (wpAny_mono one (fun r s' z => ?_) fun _ _ e => e)
    obtain ⟨v, rfl, hq⟩ := z
    exact wpAny_pure hq
  · refine wpAny_bind (wpAny_pure ?_)
    simp only [Bool.false_eq_true, if_false]
    refine wpAny_bind (wpAny_mono one (fun r s' z => ?_) fun _ _ e => e)
    obtain ⟨v, rfl, hq⟩ := z
    exact wpAny_pure hq
end
end Lm

namespace Lm
open PySem PySem.W PySem.Calls PyProof.Rows Builtin
theorem meets_enum1 {v : Value} {o : Obj} {H : Heap → Prop} (B : Begins v o H) :
    Meets (Builtin.«enumerate.__new__» ⟨[.type "enumerate", v], []⟩) (fun _ R s => H s.heap ∧
      R (.ok (.ret (.ref (s.heap.push o).objs.size))) { s with heap := (s.heap.push o).push { cls := .type "enumerate", data := .fields #[.none, .bool false, .ref s.heap.objs.size, rawInt 0, .none, .none] } }) :=
  .of_wp fun prog w A R s ⟨h1, h⟩ => by
    obtain ⟨hp, g, d, tk, os⟩ := s
    have hsub := sub_enumerate
    have q1 : ∀ {A' : Around} {E : Value → Shared → Prop} {Q : Value → Shared → Prop}, Q (.ref hp.objs.size) ⟨hp.push o, g, d, tk, os⟩ → wpAny (model prog w) A' (pyIter v) Q E ⟨hp, g, d, tk, os⟩ :=
      fun q => B.iter prog w _ _ ⟨hp, g, d, tk, os⟩ _ h1 q
    wp_walk using q1
    refine wpAny_stack_any fun st => wpAny_pure ?_
    split
    · rename_i c _ _ _ _ _
      cases (c == Value.type "enumerate")
      · wp_walk using q1
        exact ⟨_, rfl, h⟩
      · wp_walk using q1
        exact ⟨_, rfl, h⟩
    · wp_walk using q1
      exact ⟨_, rfl, h⟩
section
variable {prog : Program} {w : World} {A : Around} {E : Value → Shared → Prop} {s : Shared}
theorem call_enum1 {v : Value} {o : Obj} {H : Heap → Prop} {Q : Value → Shared → Prop} (B : Begins v o H) (h1 : H s.heap)
    (h : ∀ h', IsEnum h' (s.heap.objs.size + 1) s.heap.objs.size 0 .none → h'.get? s.heap.objs.size = some o → h'.objs.size = s.heap.objs.size + 2 →
      (∀ b o, s.heap.get? b = some o → h'.get? b = some o) → Q (.ref (s.heap.objs.size + 1)) { s with heap := h' }) :
    wpAny (model prog w) A (call (.type "enumerate") [v]) Q E s := by
  refine callType_new F.called_enumerate (by decide) (F.typeCall_enumerate_1 _) (F.newCall_enumerate_1 _) (fun obj => F.args_object_init_2 obj _) F.entry_enumerate_new
    (meets_enum1 B) ⟨h1, ?_⟩
  have hz : (s.heap.push o).objs.size = s.heap.objs.size + 1 := Heap.size_push ..
  show _ ∧ _
  rw [hz]
  have he : IsEnum ((s.heap.push o).push { cls := .type "enumerate", data := .fields #[.none, .bool false, .ref s.heap.objs.size, rawInt 0, .none, .none] }) (s.heap.objs.size + 1) s.heap.objs.size 0 .none := by
    have := Heap.get?_push_size (s.heap.push o) (o := { cls := .type "enumerate", data := .fields #[.none, .bool false, .ref s.heap.objs.size, rawInt 0, .none, .none] }) rfl
    rw [hz] at this; exact this
  refine ⟨⟨_, he, rfl⟩, h _ he (Heap.get?_push_of_some _ (Heap.get?_push_size _ B.free)) (by rw [Heap.size_push, hz]) fun b o x => Heap.get?_push_of_some _ (Heap.get?_push_of_some _ x)⟩
end
end Lm
namespace Lm
open PySem L2 PyProof.Rows PySem.Spec
open PySem.F in
theorem pyNext_enumT_end {prog : Program} {w : World} {A : Around} {E : Value → Shared → Prop} {s : Shared} {e it l : Addr} {i : Nat} {items : Array Value} {old : Value} {Q : Option Value → Shared → Prop} (hh : A.handled = none)
    (he : IsEnum s.heap e it i old) (hit : s.heap.IsTupleIter it l i) (hl : s.heap.IsTuple l items) (hx : items[i]? = none)
    (hQ : ∀ h', Heap.ExtBut it s.heap h' → Q none { s with heap := h' }) : wpAny (model prog w) A (pyNext (.ref e)) Q E s := by
  have hT : s.TypeIs (.ref e) "enumerate" := ⟨_, he, rfl⟩
  unfold pyNext
  refine wpAny_bind (wpAny_attempt (wpAny_callSpecial?_slot (name := Str.ofString "__next__") hT F.slot_enumerate_next
    (wpAny_call_entry F.slot_enumerate_next hT F.entry_enumerate_next ?_ (F.args_enumerate_next_1 _))))
  show wpAny _ _ (field (.ref e) 2 >>= _) _ _ _
  refine wpAny_bind (wpAny_field he rfl (x := .ref it) rfl ?_)
  refine wpAny_bind (wpAny_nextOf_tuple_end (A := A.in1) hh hit hl hx fun h' x he' hx' => ?_)
  obtain ⟨o, ho, hc⟩ := hx'
  refine wpAny_bind (wpAny_isInstance (T := "StopIteration") (b := true) ⟨o, ho, hc⟩ isSubtype_stop ?_)
  exact wpAny_pure (hQ _ he')
/-- the tuple at a as it stands, each item in a new pair -/
def IteT (K : PySem.W.Frag) (a : Addr) : It :=
  ⟨fun i H => ∃ (xs : List V) (x : V), SqT K H a xs ∧ xs[i]? = some x, fun i H v H' => ∃ T x, v = .ref T ∧ H T = none ∧ H' = upd H T (.tup [.int (i : Nat), x]) ∧ ∀ xs, SqT K H a xs → xs[i]? = some x, fun i H => ∃ xs : List V, SqT K H a xs ∧ xs.length ≤ i⟩
theorem turn_enumT {P : Program} {w : World} {K : PySem.W.Frag} {elts : List Expr} {kk : Nat} {tpos : Pos} (a e it : Addr) (hai : a ≠ it) (hea : e ≠ a) :
    Turn P w K (.Tuple elts kk tpos) (IteT K a) [e, it] e (fun i h => (∃ old, IsEnum h e it ((i : Nat) : Int) old) ∧ h.IsTupleIter it a i ∧ e ≠ it) where
  mem := by simp
  obj := fun i h st b hb => by
    obtain ⟨⟨old, he⟩, ⟨o, ho, hc, hd⟩, _⟩ := st
    have e' : b = e ∨ b = it := by simpa using hb
    rcases e' with z | z
    · rw [z]; exact ⟨_, he, fun v q => nomatch q⟩
    · rw [z]; exact ⟨o, ho, fun v q => by rw [hd] at q; cases q⟩
  keep := fun i h h' st k => let ⟨⟨old, he⟩, hi, hne⟩ := st; ⟨⟨old, k e (by simp) _ he⟩, hi.at fun o q => k it (by simp) o q, hne⟩
  item := by
    intro X hP hw hK hc i pins s σ H E I hf st hg
    subst hP hw hK
    obtain ⟨⟨old, he⟩, hit, hne⟩ := st
    obtain ⟨xs, x, hq, hx⟩ := hg
    obtain ⟨its, rv, p, hz⟩ := I.tuple hq
    obtain ⟨u, hu, ru⟩ := rv.get hx
    have hel : e < s.heap.objs.size := Heap.lt_size he
    have hil : it < s.heap.objs.size := by obtain ⟨_, q, _⟩ := hit; exact Heap.lt_size q
    have hi : i < its.toArray.size := by
      have := (List.getElem?_eq_some_iff.mp hu).1
      simpa using this
    refine wpAny_pyNext_enum_itemD (Draws.tuple (A := X.A.in1) (I.ok.hd hc) it a hai its.toArray) he ⟨hit, p⟩ hi hne (by simp [hne, hea]) fun x' h' tk hx' ho hst' hT hsz hk => ?_
    have hit' := hst'.1
    have ex' : x' = u := by
      have : its[i]? = some x' := by simpa using hx'
      rw [hu] at this; exact (Option.some.inj this).symm
    subst ex'
    refine ⟨_, rfl, wpAny_letOwnedTupleGo_enum (s := { s with heap := h', toks := tk + 1 }) ho fun h'' he' sb => ?_⟩
    have hT2 : h''.get? s.heap.objs.size = some { cls := .type "tuple", data := .seq #[.int i tk, x'] } := (sb.2 _ (Nat.ne_of_gt hel)).trans hT
    have new : ObjOk X.prog X.w (upd H s.heap.objs.size (.tup [.int (i : Nat), x])) h'' s.heap.objs.size (.tup [.int (i : Nat), x]) :=
      ⟨by show 2 ≤ sizeLine; decide, [.int i tk, x'], .cons ⟨_, rfl⟩ (.cons ru .nil), ⟨_, hT2, rfl, _, rfl⟩⟩
    have I1 : Inv X pins σ (upd H s.heap.objs.size (.tup [.int (i : Nat), x])) { s with heap := h'', toks := tk + 1 } :=
      I.turnedNew (ch := [e, it]) (fun b ob hb q => (sb.2 b (fun z => hb (by simp [z]))).trans (hk b ob (fun z => hb (by simp [z])) (fun z => hb (by simp [z])) q)) hf (Nat.le_refl _) new
    refine ⟨.ref s.heap.objs.size, _, I1, rfl, ⟨_, x, rfl, I.hok.fresh (Nat.le_refl _), rfl, fun ys hy => by rw [I.tuple_inj hy hq]; exact hx⟩, ⟨⟨x', ?_⟩, hit'.at fun o q => (sb.2 it (Ne.symm hne)).trans q, hne⟩, fun b hb => ?_⟩
    · have e1 : ((i + 1 : Nat) : Int) = (i : Int) + 1 := by omega
      rw [e1]; exact he'
    · have hb' : b < s.heap.objs.size := by
        have e' : b = e ∨ b = it := by simpa using hb
        rcases e' with z | z
        · rw [z]; exact hel
        · rw [z]; exact hil
      rw [upd_ne (Nat.ne_of_lt hb')]
      exact (hf b hb).1
  done := by
    intro X hP hw hK hc i pins s σ H E I hf st hg
    subst hP hw hK
    obtain ⟨⟨old, he⟩, hit, hne⟩ := st
    obtain ⟨xs, hq, hx⟩ := hg
    obtain ⟨its, rv, p, hz⟩ := I.tuple hq
    obtain ⟨f0, f1, f2, f3, f4, f5⟩ := hf it (by simp)
    have hl := rv.length
    exact pyNext_enumT_end (I.ok.hd hc) he hit p (by simp; omega) fun h' eb => ⟨rfl, I.turned (t' := s.toks) (fun b o hb q => eb b o hb q) f0 f1 f3 f4 f5⟩
  self := fun A i s Q E st h => let ⟨⟨_, he⟩, _⟩ := st; wpAny_pyIter_enum he h
def iEnumA (K : PySem.W.Frag) (ta : TA) : TI := fun σ H R => ta σ H fun vs H1 => ∃ a xs, vs = [.ref a] ∧ ((SqL K H1 a xs ∧ R (Ite K a) H1) ∨ (SqT K H1 a xs ∧ R (IteT K a) H1))
theorem pi_enumA {X : Cx} {e : Expr} {ta : TA} {p pos tpos : Pos} {elts : List Expr} {kk : Nat} (hg : Gl X "enumerate") (hm : X.mg "enumerate" = none) (ha : PA X [e] ta) (hs : starEach [e] X.env = [(false, eval e X.env)] := by rfl) :
    PI X (.Tuple elts kk tpos) (.Call (.Name "enumerate" p) [e] [] pos) (iEnumA X.K ta) := by
  refine ⟨fun pins s σ H R I h => ?_⟩
  refine Call_ (ld_blt I hg hm boot_enumerate (PyProof.Rows.callWith_type1 (thn (ha.run pos pins s σ H _ I h) fun us s1 ⟨vs, H1, I1, r1, q1⟩ => ?_) hs rfl))
  obtain ⟨a, xs, ex, q1⟩ := q1
  subst ex
  cases r1 with
  | cons r rr =>
    cases rr
    cases r
    have fresh2 : ∀ b, b ∈ [s1.heap.objs.size + 1, s1.heap.objs.size] → FpOk X pins H1 b := fun b hb => by
      have e' : b = s1.heap.objs.size + 1 ∨ b = s1.heap.objs.size := by simpa using hb
      have hle : s1.heap.objs.size ≤ b := by
        rcases e' with z | z
        · rw [z]; exact Nat.le_add_right _ _
        · rw [z]; exact Nat.le_refl _
      exact I1.fpOk hle (I1.hok.fresh hle)
    rcases q1 with ⟨hq, q⟩ | ⟨hq, q⟩
    · obtain ⟨its, rv, p', hz⟩ := I1.list hq
      refine call_enumerate_list p'.isList fun h' he hit hsz hk => wpAny_pyIter_enum he ?_
      have I2 : Inv X pins σ H1 { s1 with heap := h' } := I1.kept (t' := s1.toks) hk
      exact ⟨s1.heap.objs.size + 1, [s1.heap.objs.size + 1, s1.heap.objs.size], _, _, H1, rfl, I2, turn_enum a (s1.heap.objs.size + 1) s1.heap.objs.size, ⟨⟨.none, he⟩, hit, Nat.succ_ne_self _⟩, fresh2, q⟩
    · obtain ⟨its, rv, p', hz⟩ := I1.tuple hq
      obtain ⟨o1, ho1, _⟩ := id p'
      have hlt := Heap.lt_size ho1
      refine call_enum1 (begins_tuple a its.toArray) (show s1.heap.IsTuple a its.toArray from p') fun h' he hit hsz hk => wpAny_pyIter_enum he ?_
      have I2 : Inv X pins σ H1 { s1 with heap := h' } := I1.kept (t' := s1.toks) hk
      exact ⟨s1.heap.objs.size + 1, [s1.heap.objs.size + 1, s1.heap.objs.size], _, _, H1, rfl, I2, turn_enumT a (s1.heap.objs.size + 1) s1.heap.objs.size (Nat.ne_of_lt hlt) (Nat.ne_of_gt (Nat.lt_succ_of_lt hlt)), ⟨⟨.none, he⟩, ⟨_, hit, rfl, rfl⟩, Nat.succ_ne_self _⟩, fresh2, q⟩
theorem walk_enumT {K : PySem.W.Frag} {a : Addr} {xs : List V} : Walk (IteT K a) xs.length (fun H => SqT K H a xs) (YPair (fun i => some (.int (i : Nat))) (fun i => xs[i]?)) :=
  ⟨fun i _ hi q => ⟨xs, xs[i], q, by simp [hi]⟩, fun _ q => ⟨xs, q, Nat.le_refl _⟩, fun i H v H' _ q ⟨T, x, e1, e2, e3, e4⟩ => ⟨T, _, x, e1, e2, e3, rfl, e4 xs q⟩⟩
end Lm

namespace Lm
open PySem L2
/-! ### defs, methods, classes as they stand behind the top, with their promises -/
structure DefOk (P : Program) (w : World) (K : PySem.W.Frag) (mg : Str → Option Value) (base : Heap) (k : Nat) (x : Str) (f : Addr) (fd : FuncData) (ps : List Str) (sp : Sp) : Prop where
  ok : FnOk P w K mg base CX0 k f fd ps sp
  kp : PySem.W.keepIn K (.ref f) = true
  bd : Binds K fd ps []
  mg : mg x = some (.ref f)
structure MetOk (P : Program) (w : World) (K : PySem.W.Frag) (mg : Str → Option Value) (base : Heap) (k : Nat) (C : Addr) (m : Str) (f : Addr) (fd : FuncData) (ps : List Str) (sp : Sp) : Prop where
  ok : FnOk P w K mg base CX0 k f fd ps sp
  bd : Binds K fd ps []
  mt : Meth K C m f
  cl : Cls K C
structure ClsOk (P : Program) (w : World) (K : PySem.W.Frag) (mg : Str → Option Value) (base : Heap) (k : Nat) (x : Str) (C f : Addr) (fd : FuncData) (ps : List Str) (sp : Sp) : Prop where
  ok : FnOk P w K mg base CX0 k f fd ps sp
  bd : Binds K fd ps []
  mkr : Mk K C f
  cl : Cls K C
  mg : mg x = some (.ref C)
section
variable {X : Cx} {k : Nat} {f C : Addr} {fd : FuncData} {ps : List Str} {sp : Sp} {x m : Str} {p pos apos : Pos} {e o : Expr} {es : List Expr} {ta : TE} {t : TA}
theorem pe_d (D : DefOk X.prog X.w X.K X.mg X.base k x f fd ps sp) (hr : Room k X.A) (ha : PA X (e :: es) t) (hg : Gl X x := by rfl) (hdb : (x == ("__debug__" : Str)) = false := by decide)
    (he : starEach (e :: es) X.env = (false, eval e X.env) :: starEach es X.env := by rfl) (hpl : (backTo pos (starEach es X.env)).any (·.1) = false := by rfl) :
    PE X (.Call (.Name x p) (e :: es) [] pos) (tCall sp [] E0 t) := pe_call D.ok hr hg D.mg D.kp D.bd .nil pass0 ha hdb he hpl
theorem pe_d0 (D : DefOk X.prog X.w X.K X.mg X.base k x f fd ps sp) (hr : Room k X.A) (hg : Gl X x := by rfl) (hdb : (x == ("__debug__" : Str)) = false := by decide) :
    PE X (.Call (.Name x p) [] [] pos) (tCall sp [] E0 tNil) := pe_call0 D.ok hr hg D.mg D.kp D.bd .nil pass0 hdb
theorem pe_mk (D : ClsOk X.prog X.w X.K X.mg X.base k x C f fd ps sp) (hr : Room (k + 1) X.A) (ha : PA X (e :: es) t) (hg : Gl X x := by rfl) (hdb : (x == ("__debug__" : Str)) = false := by decide)
    (he : starEach (e :: es) X.env = (false, eval e X.env) :: starEach es X.env := by rfl) (hpl : (backTo pos (starEach es X.env)).any (·.1) = false := by rfl) :
    PE X (.Call (.Name x p) (e :: es) [] pos) (tMake C sp [] E0 t) := pe_make D.mkr D.ok hr hg D.mg D.bd .nil pass0 ha hdb he hpl
theorem pe_m {pl : Sem Bool} (D : MetOk X.prog X.w X.K X.mg X.base k C m f fd ps sp) (hr : Room k X.A) (he : PE X o ta) (ha : PA X (e :: es) t)
    (hst : starEach (e :: es) X.env = (false, eval e X.env) :: starEach es X.env := by rfl) (hpl : (backTo pos (starEach es X.env)).any (·.1) = false := by rfl)
    (ht : eval (.Call (.Attribute o m apos) (e :: es) [] pos) X.env = (do
      let ov ← eval o X.env
      standAt apos.atName
      let (f, first) ← holding [ov] (getMethod ov m pl)
      callWith pos f first (backTo pos (starEach (e :: es) X.env)) (backToKw pos (keywordEach [] X.env))) := by rfl) :
    PE X (.Call (.Attribute o m apos) (e :: es) [] pos) (tMeth C m sp [] E0 ta t) := pe_meth (pl := pl) he D.cl D.mt D.ok hr D.bd .nil pass0 ha hst hpl ht
theorem pe_m0 {pl : Sem Bool} (D : MetOk X.prog X.w X.K X.mg X.base k C m f fd ps sp) (hr : Room k X.A) (he : PE X o ta)
    (ht : eval (.Call (.Attribute o m apos) [] [] pos) X.env = (do
      let ov ← eval o X.env
      standAt apos.atName
      let (f, first) ← holding [ov] (getMethod ov m pl)
      callWith pos f first (backTo pos (starEach [] X.env)) (backToKw pos (keywordEach [] X.env))) := by rfl) :
    PE X (.Call (.Attribute o m apos) [] [] pos) (tMeth C m sp [] E0 ta tNil) := pe_meth0 (pl := pl) he D.cl D.mt D.ok hr D.bd .nil pass0 ht
theorem MetOk.len (D : MetOk X.prog X.w X.K X.mg X.base k C "__len__" f fd ps sp) (hr : Room (k + 1) X.A) : CallR X (.builtin "len") (rLenOwn C sp E0) := call_lenOwn D.ok D.mt.at_ D.mt.fn D.bd hr pass0
theorem MetOk.isin (D : MetOk X.prog X.w X.K X.mg X.base k C "__contains__" f fd ps sp) (hr : Room k X.A) : OpR X (compareOp .In) (rInOwn C sp E0 false) := op_inOwn D.ok D.mt.at_ D.mt.fn D.bd hr pass0
theorem MetOk.notin (D : MetOk X.prog X.w X.K X.mg X.base k C "__contains__" f fd ps sp) (hr : Room k X.A) : OpR X (compareOp .NotIn) (rInOwn C sp E0 true) := op_notInOwn D.ok D.mt.at_ D.mt.fn D.bd hr pass0
theorem MetOk.bin {op : Operator} (D : MetOk X.prog X.w X.K X.mg X.base k C (PySem.dunder op.info.2) f fd ps sp) (hc : PySem.W.selfFirst X.K C = true) (hr : Room k X.A) : OpR X (binaryOp op) (rBinOwn C sp E0) := op_binOwn D.ok hc D.mt.at_ D.mt.fn D.bd hr pass0
theorem MetOk.le (D : MetOk X.prog X.w X.K X.mg X.base k C "__le__" f fd ps sp) (hr : Room k X.A) : OpR X (compareOp .LtE) (rBinOwn C sp E0) := op_cmpOwn (fun _ _ => rfl) D.ok D.mt.at_ D.mt.fn D.bd hr pass0
theorem MetOk.lt (D : MetOk X.prog X.w X.K X.mg X.base k C "__lt__" f fd ps sp) (hr : Room k X.A) : OpR X (compareOp .Lt) (rBinOwn C sp E0) := op_cmpOwn (fun _ _ => rfl) D.ok D.mt.at_ D.mt.fn D.bd hr pass0
theorem MetOk.eq (D : MetOk X.prog X.w X.K X.mg X.base k C "__eq__" f fd ps sp) (hr : Room k X.A) : OpR X (compareOp .Eq) (rBinOwn C sp E0) := op_cmpOwn (fun _ _ => rfl) D.ok D.mt.at_ D.mt.fn D.bd hr pass0
/-- x != y of two instances of a class with an own == alone -/
def rNeOwn (C : Addr) (sp : Sp) (E : XK) : R2 := fun x y H Q => ∃ a dx fs b dy gs, x = .ref a ∧ y = .ref b ∧ H a = some (.ins C dx fs) ∧ H b = some (.ins C dy gs) ∧ sp [x, y] H (fun z H' => ∃ k : Bool, z = .bl k ∧ Q (.bl (!k)) H') E
theorem MetOk.ne (D : MetOk X.prog X.w X.K X.mg X.base k C "__eq__" f fd ps sp) (hn : PySem.W.findIn X.K (.ref C) "__ne__" = some (some (.builtin "object.__ne__"))) (ho : PySem.W.subIn X.K (.ref C) (.type "object") = some true) (hr : Room (k + 1) X.A) :
    OpR X (compareOp .NotEq) (rNeOwn C sp E0) := by
  intro pins s σ H x y v u Q I rx ry h
  obtain ⟨a, dx, fs, b, dy, gs, rfl, rfl, ha, hb', q⟩ := h
  cases (show v = Value.ref a from rx)
  cases (show u = Value.ref b from ry)
  obtain ⟨mA, J, _⟩ := ins_get I.hok ha
  obtain ⟨mB, J', _⟩ := ins_get I.hok hb'
  obtain ⟨od, J, _⟩ := J.look
  obtain ⟨od', J', _⟩ := J'.look
  obtain ⟨m, hF⟩ := I.fr
  show wpAny _ _ (richCompare .NotEq _ _) _ _ _
  refine ne_own (tb := .ref C) (by have := hr.un; omega) hF I.ok.mod.kin J J'.type (by simp [PySem.W.notFirst]) hn ho D.mt.at_ D.mt.fn
    (wpAny_mono (run_in (us := [.ref a, .ref b]) (vs := [.ref a, .ref b]) D.ok hr.in1 I.env0.in1 D.bd pass0 I (.cons rfl (.cons rfl .nil)) q) (fun w s' z => ?_) fun _ _ x => x)
  obtain ⟨z', H', I', rz, b, ez, qz⟩ := z
  subst ez
  cases (show w = Value.bool b from rz)
  exact ⟨b, rfl, .bl _, H', I', rfl, qz⟩
end
/-! ### heaps -/
/-- all that was tracked is as it was, but perhaps what stands at st -/
def Kp (st : Addr) (H H' : Hp) : Prop := ∀ b o, b ≠ st → H b = some o → H' b = some o
theorem Kp.refl (st : Addr) (H : Hp) : Kp st H H := fun _ _ _ h => h
theorem Kp.trans {st : Addr} {H H1 H2 : Hp} (a : Kp st H H1) (b : Kp st H1 H2) : Kp st H H2 := fun c o n h => b c o n (a c o n h)
theorem Kp.of {st : Addr} {H H' : Hp} (s : Same H H') : Kp st H H' := fun b o _ h => s b o h
theorem Kp.upd (st : Addr) (H : Hp) (o : HO) : Kp st H (upd H st o) := fun b u n h => by rw [upd_ne n]; exact h
theorem Kp.free {st : Addr} {H H' : Hp} (e : Kp st H H') {l : Addr} (hl : l ≠ st) (h : H' l = none) : H l = none := by
  cases q : H l with
  | none => rfl
  | some o => rw [e l o hl q] at h; cases h
theorem Same.upd' {H : Hp} {p : Addr} {o : HO} (h : H p = none) : Same H (upd H p o) := fun a u e => by rw [upd_ne (ne_of_none e h)]; exact e
/-- an object that H does not know may change -/
theorem Same.mut {H H' : Hp} {p : Addr} {o : HO} (e : Same H H') (h : H p = none) : Same H (upd H' p o) := fun a u ha => by rw [upd_ne (ne_of_none ha h)]; exact e a u ha
theorem Kp.mut {st : Addr} {H H' : Hp} {p : Addr} {o : HO} (e : Kp st H H') (h : H p = none) : Kp st H (L2.upd H' p o) := fun a u hn ha => by rw [upd_ne (ne_of_none ha h)]; exact e a u hn ha
theorem Kp.seqL {st : Addr} {K : PySem.W.Frag} {H H' : Hp} {a : Addr} {xs : List V} (e : Kp st H H') (hn : a ≠ st) (h : SqL K H a xs) : SqL K H' a xs := by
  rcases h with (h | ⟨o, h⟩) | h
  · exact .inl (.inl (e _ _ hn h))
  · exact .inl (.inr ⟨o, e _ _ hn h⟩)
  · exact .inr h
theorem Kp.seqT {st : Addr} {K : PySem.W.Frag} {H H' : Hp} {a : Addr} {xs : List V} (e : Kp st H H') (hn : a ≠ st) (h : SqT K H a xs) : SqT K H' a xs := by
  rcases h with (h | ⟨o, h⟩) | h
  · exact .inl (.inl (e _ _ hn h))
  · exact .inl (.inr ⟨o, e _ _ hn h⟩)
  · exact .inr h
theorem Same.seqT {K : PySem.W.Frag} {H H' : Hp} {a : Addr} {xs : List V} (e : Same H H') (h : SqT K H a xs) : SqT K H' a xs := by
  rcases h with (h | ⟨o, h⟩) | h
  · exact .inl (.inl (e _ _ h))
  · exact .inl (.inr ⟨o, e _ _ h⟩)
  · exact .inr h
/-- the law's state: the cells, how many were taken, what is left, whether it is far -/
structure StAt (H : Hp) (st c : Addr) : Prop where
  ob : ∃ (n l : Int) (b : Bool), H st = some (.lst [.ref c, .int n, .int l, .bl b])
  ce : ∃ ns : List Int, H c = some (.lst (ns.map V.int)) ∧ ns.length ≤ 63
  ne : c ≠ st
theorem StAt.same {H H' : Hp} {st c : Addr} (S : StAt H st c) (e : Same H H') : StAt H' st c := by
  obtain ⟨⟨n, l, b, h⟩, ⟨ns, h2, h3⟩, ne⟩ := S
  exact ⟨⟨n, l, b, e _ _ h⟩, ⟨ns, e _ _ h2, h3⟩, ne⟩
/-- another object changes -/
theorem StAt.mut {H : Hp} {st c p : Addr} {o : HO} (S : StAt H st c) (h1 : p ≠ st) (h2 : p ≠ c) : StAt (upd H p o) st c := by
  obtain ⟨⟨n, l, b, h⟩, ⟨ns, h4, h3⟩, ne⟩ := S
  exact ⟨⟨n, l, b, by rw [upd_ne (Ne.symm h1)]; exact h⟩, ⟨ns, by rw [upd_ne (Ne.symm h2)]; exact h4, h3⟩, ne⟩
theorem StAt.of_new {H : Hp} {st c p : Addr} (S : StAt H st c) (h : H p = none) : p ≠ st ∧ p ≠ c := by
  obtain ⟨⟨n, l, b, h1⟩, ⟨ns, h4, h3⟩, ne⟩ := S
  exact ⟨(ne_of_none h1 h).symm, (ne_of_none h4 h).symm⟩
end Lm

namespace Lm
open PySem PySem.W PySem.Calls PyProof.Rows
section
variable {prog : Program} {w : World} {A : Around} {E : Value → Shared → Prop} {s : Shared} {K : Frag} {x C L f f' dx : Addr} {h₀ : Heap} {m : Str → Option Value} {od : Option Obj}
theorem add_declines {C : Addr} {dx : Addr} (n : Int) (t : Tok) (x : Addr) : GivesAt (fun s => s.heap.get? x = some (instObj C dx)) (Builtin.«int.__add__» ⟨[.int n t, .ref x], []⟩) (.val .notImplemented) := by
  intro prog w A R s hx h
  obtain ⟨hp, g, d, tk, os⟩ := s
  have hx : hp.get? x = some (instObj C dx) := hx
  unfold Builtin.«int.__add__» PySem.Builtin.Int.intBinary
  repeat (first
    | (refine wpAny_bind (m := asInt? (.ref x)) ?_; unfold asInt?; refine wpAny_bind (wpAny_load (s := ⟨hp, g, d, tk, os⟩) hx ?_); dsimp only [instObj])
    | wp_step)
  exact h
theorem ksp_addR {n : Int} {t : Tok} {Q : Value → Shared → Prop} (Fh : Fr h₀ L s.heap m) (X₀ : K.In h₀) (I : InstAt s.heap x (instObj C dx) C od) (hc : selfFirst K C = true)
    (hs : findIn K (.ref C) "__add__" = some (some (.ref f'))) (hr : findIn K (.ref C) "__radd__" = some (some (.ref f))) (hf : isFn K (.ref f) = true) (hsub : subIn K (.ref C) (.type "int") = some false)
    (h : wpAny (model prog w) A (call (.ref f) [.ref x, .int n t]) (PySem.W.CmpBack Q) E s) : wpAny (model prog w) A (binaryOp .Add (.int n t) (.ref x)) Q E s := by
  have X := X₀.keeps Fh.keep
  obtain ⟨cd, rest, hcd, hm⟩ := ksp_first hc
  have I' := I
  obtain ⟨hh, g, d, tt, os⟩ := s
  have L1 : Looks (model prog w) hh (typeOf (.ref x)) (.ref C) := I.type
  have L3 : Looks (model prog w) hh (fillsNumberSlot (.ref C) "add") true := fills_K X hcd hm hs
  have L5 : Looks (model prog w) hh (isSubtype (.ref C) (.type "int")) false := looks_subIn X hsub
  have L2 : Looks (model prog w) hh (typeOf (.int n t)) (.type "int") := Looks.of_pure rfl
  have L4 : Looks (model prog w) hh (fillsNumberSlot (.type "int") "add") true := Looks.of_pure F.fills_int_add
  have hne : (Value.type "int" == Value.ref C) = false := Bool.eq_false_iff.mpr fun q => by cases beq_iff_eq.mp q
  have two : ∀ {Q' : Option Value → Shared → Prop}, (∀ v s', Q v s' → Q' (some v) s') → wpAny (model prog w) A (tryMethod (.ref x) (dunderR "add") (.int n t)) Q' E ⟨hh, g, d, tt, os⟩ := fun hq => by
    refine wpAny_mono (ksp_try (Q := Q) X I' hr hf h) (fun r s' z => ?_) fun _ _ e => e
    obtain ⟨v, rfl, q⟩ := z
    exact hq _ _ q
  have one : ∀ {Q' : Option Value → Shared → Prop}, Q' none ⟨hh, g, d, tt, os⟩ → wpAny (model prog w) A (tryMethod (.int n t) (PySem.dunder "add") (.ref x)) Q' E ⟨hh, g, d, tt, os⟩ := fun hq =>
    wpAny_tryMethod_declines (typeIs_int _ n t) F.slot_int_add (call_givesAt F.slot_int_add (typeIs_int _ n t) F.entry_int_add (F.args_int_add_2 _ _) (add_declines (C := C) (dx := dx) n t x) I'.at_ ⟨rfl, hq⟩)
  simp only [binaryOp]
  refine wpAny_holding (wpAny_bind ?_)
  unfold binaryOp1
  refine wpAny_bind (L2.at (wpAny_bind (L1.at (wpAny_bind (L4.at ?_)))))
  simp only [hne, Bool.false_eq_true, if_false]
  refine wpAny_bind (L3.at ?_)
  simp only [Bool.and_self, if_true]
  refine wpAny_bind (L5.at ?_)
  simp only [Bool.false_eq_true, if_false, Bool.not_false, Bool.and_self, if_true]
  refine wpAny_bind (wpAny_pure ?_)
  simp only [Bool.false_eq_true, if_false]
  refine wpAny_bind (one ?_)
  dsimp only
  refine wpAny_bind (two fun v s' q => ?_)
  dsimp only
  exact wpAny_bind (wpAny_rule (wpAny_pure (wpAny_pure q)))
end
end Lm

namespace Lm
open PySem L2
section
variable {X : Cx} {CX : CXT} {k : Nat} {f f' C : Addr} {fd : FuncData} {ps : List Str} {sp : Sp} {E : XK}
/-- x op n, x an instance of the class at C, n an integer -/
def rBinInt (C : Addr) (sp : Sp) (E : XK) : R2 := fun x y H Q => ∃ a dx fs n, x = .ref a ∧ y = .int n ∧ H a = some (.ins C dx fs) ∧ sp [x, y] H Q E
/-- what the text says of the class's own op and of the integers' -/
structure BinInt (K : PySem.W.Frag) (C : Addr) (nm : String) : Prop where
  self : PySem.W.selfFirst K C = true
  r : ∃ rc, PySem.W.findIn K (.ref C) (PySem.dunderR nm) = some rc ∧ (rc = none ∨ ∃ g : Addr, rc = some (.ref g))
  i1 : ∃ fo, PySem.W.findIn K (.type "int") (PySem.dunder nm) = some fo
  i2 : ∃ ro, PySem.W.findIn K (.type "int") (PySem.dunderR nm) = some ro
  sub : PySem.W.subIn K (.type "int") (.ref C) = some false
theorem op_binInt {op : Operator} (F : FnOk X.prog X.w X.K X.mg X.base CX k f fd ps sp) (B : BinInt X.K C op.info.2) (hs : PySem.W.findIn X.K (.ref C) (PySem.dunder op.info.2) = some (some (.ref f))) (hf : PySem.W.isFn X.K (.ref f) = true) (hb : Binds X.K fd ps []) (hr : Room k X.A) (hx : Passes CX X E) :
    OpR X (binaryOp op) (rBinInt C sp E) := by
  intro pins s σ H x y v u Q I rx ry h
  obtain ⟨a, dx, fs, n, rfl, rfl, ha, q⟩ := h
  cases (show v = Value.ref a from rx)
  obtain ⟨t, e⟩ := (show ∃ t, u = Value.int n t from ry)
  subst e
  obtain ⟨mA, J, _⟩ := ins_get I.hok ha
  obtain ⟨od, J, _⟩ := J.look
  obtain ⟨m, hF⟩ := I.fr
  obtain ⟨rc, b1, b2⟩ := B.r
  obtain ⟨fo, b3⟩ := B.i1
  obtain ⟨ro, b4⟩ := B.i2
  refine PySem.W.ksp_binT (T := "int") hF I.ok.mod.kin J rfl B.self hs hf b1 b2 b3 b4 B.sub (wpAny_mono (run_in (us := [.ref a, .int n t]) (vs := [.ref a, .int n]) F hr I.env0 hb hx I (.cons rfl (.cons ⟨t, rfl⟩ .nil)) q) (fun w s' z => ?_) fun _ _ x => x)
  obtain ⟨z', H', I', rz, qz⟩ := z
  exact cmpBack rz ⟨z', H', I', rz, qz⟩
/-- n + x -/
def rAddR (C : Addr) (sp : Sp) (E : XK) : R2 := fun x y H Q => ∃ a dx fs n, x = .int n ∧ y = .ref a ∧ H a = some (.ins C dx fs) ∧ sp [y, x] H Q E
theorem op_addR (F : FnOk X.prog X.w X.K X.mg X.base CX k f fd ps sp) (hc : PySem.W.selfFirst X.K C = true) (hs' : PySem.W.findIn X.K (.ref C) "__add__" = some (some (.ref f'))) (hsub : PySem.W.subIn X.K (.ref C) (.type "int") = some false)
    (hs : PySem.W.findIn X.K (.ref C) "__radd__" = some (some (.ref f))) (hf : PySem.W.isFn X.K (.ref f) = true) (hb : Binds X.K fd ps []) (hr : Room k X.A) (hx : Passes CX X E) :
    OpR X (binaryOp .Add) (rAddR C sp E) := by
  intro pins s σ H x y v u Q I rx ry h
  obtain ⟨a, dx, fs, n, rfl, rfl, ha, q⟩ := h
  cases (show u = Value.ref a from ry)
  obtain ⟨t, e⟩ := (show ∃ t, v = Value.int n t from rx)
  subst e
  obtain ⟨mA, J, _⟩ := ins_get I.hok ha
  obtain ⟨od, J, _⟩ := J.look
  obtain ⟨m, hF⟩ := I.fr
  refine ksp_addR hF I.ok.mod.kin J hc hs' hs hf hsub (wpAny_mono (run_in (us := [.ref a, .int n t]) (vs := [.ref a, .int n]) F hr I.env0 hb hx I (.cons rfl (.cons ⟨t, rfl⟩ .nil)) q) (fun w s' z => ?_) fun _ _ x => x)
  obtain ⟨z', H', I', rz, qz⟩ := z
  exact cmpBack rz ⟨z', H', I', rz, qz⟩
theorem MetOk.bini {op : Operator} (D : MetOk X.prog X.w X.K X.mg X.base k C (PySem.dunder op.info.2) f fd ps sp) (B : BinInt X.K C op.info.2) (hr : Room k X.A) : OpR X (binaryOp op) (rBinInt C sp E0) := op_binInt D.ok B D.mt.at_ D.mt.fn D.bd hr pass0
theorem MetOk.addr (D : MetOk X.prog X.w X.K X.mg X.base k C "__radd__" f fd ps sp) (hc : PySem.W.selfFirst X.K C = true) (hs' : PySem.W.findIn X.K (.ref C) "__add__" = some (some (.ref f'))) (hsub : PySem.W.subIn X.K (.ref C) (.type "int") = some false) (hr : Room k X.A) :
    OpR X (binaryOp .Add) (rAddR C sp E0) := op_addR D.ok hc hs' hsub D.mt.at_ D.mt.fn D.bd hr pass0
theorem MetOk.gt (D : MetOk X.prog X.w X.K X.mg X.base k C "__gt__" f fd ps sp) (hr : Room k X.A) : OpR X (compareOp .Gt) (rBinOwn C sp E0) := op_cmpOwn (fun _ _ => rfl) D.ok D.mt.at_ D.mt.fn D.bd hr pass0
theorem MetOk.ge (D : MetOk X.prog X.w X.K X.mg X.base k C "__ge__" f fd ps sp) (hr : Room k X.A) : OpR X (compareOp .GtE) (rBinOwn C sp E0) := op_cmpOwn (fun _ _ => rfl) D.ok D.mt.at_ D.mt.fn D.bd hr pass0
/-- a property of a class, with its getter's promise -/
structure PrpOk (P : Program) (w : World) (K : PySem.W.Frag) (mg : Str → Option Value) (base : Heap) (k : Nat) (C p : Addr) (m : Str) (f : Addr) (fd : FuncData) (ps : List Str) (sp : Sp) : Prop where
  ok : FnOk P w K mg base CX0 k f fd ps sp
  bd : Binds K fd ps []
  pr : PropOf K C m p f
  cl : Cls K C
theorem pe_p {p : Addr} {m : Str} {e : Expr} {pos : Pos} {ta : TE} (D : PrpOk X.prog X.w X.K X.mg X.base k C p m f fd ps sp) (hr : Room (k + 1) X.A) (he : PE X e ta) (hab : attributeBase e m X.env (eval e X.env) = eval e X.env := by rfl) :
    PE X (.Attribute e m pos) (tProp C sp [] E0 ta) := pe_prop he D.cl D.pr D.ok hr D.bd .nil pass0 hab
end
end Lm

namespace Lm
open PySem L2 PyProof.Rows
section
variable {prog : Program} {w : World} {A : Around} {E : Value → Shared → Prop} {s : Shared}
theorem isList_push {h : Heap} {l : Addr} {items : Array Value} {o : Obj} (x : h.IsList l items) : (h.push o).IsList l items := by
  obtain ⟨ol, hol, r⟩ := x
  exact ⟨ol, Heap.get?_push_of_some _ hol, r⟩
theorem isList_ext {h h' : Heap} {it l : Addr} {items : Array Value} (x : h.IsList l items) (e : Heap.ExtBut it h h') (n : l ≠ it) : h'.IsList l items := by
  obtain ⟨ol, hol, r⟩ := x
  exact ⟨ol, e l ol n hol, r⟩
theorem draw_list {it t : Addr} {items : Array Value} (hne : t ≠ it) : ∀ (n i : Nat) (s : Shared) (Q : List Value → Shared → Prop), s.heap.IsListIter it t i → s.heap.IsList t items → i + n ≤ items.size →
    (∀ h', h'.IsListIter it t (i + n) → Heap.SameBut it s.heap h' → Q ((items.toList.drop i).take n) { s with heap := h' }) → wpAny (model prog w) A (draw (.ref it) n) Q E s
  | 0, i, s, Q, hit, _, _, hQ => by
    show wpAny _ _ (pure []) Q E s
    exact wpAny_pure (by simpa using hQ s.heap hit (Heap.SameBut.refl ..))
  | n + 1, i, s, Q, hit, ht, hle, hQ => by
    have hlt : i < items.size := by omega
    show wpAny _ _ (pyNext (.ref it) >>= _) Q E s
    refine wpAny_bind (wpAny_pyNext_list_item hit ht (x := items[i]) (by simp [hlt]) fun h₁ hit₁ hs₁ => ?_)
    refine wpAny_bind (wpAny_holding (draw_list hne n (i + 1) _ _ hit₁ (isList_ext ht hs₁.extBut hne) (by omega) fun h₂ hit₂ hs₂ => wpAny_pure ?_))
    have hd : items.toList.drop i = items[i] :: items.toList.drop (i + 1) := by simp [List.drop_eq_getElem_cons, hlt]
    have := hQ h₂ (by rw [show i + (n + 1) = i + 1 + n by omega]; exact hit₂) (hs₁.trans hs₂)
    rw [hd, List.take_succ_cons] at this
    exact this
theorem unpackItems_list {t : Addr} {items : Array Value} {Q : List Value → Shared → Prop} (hh : A.handled = none) (ht : s.heap.IsList t items)
    (hQ : ∀ h', Heap.ExtBut s.heap.objs.size s.heap h' → Q items.toList { s with heap := h' }) : wpAny (model prog w) A (unpackItems (.ref t) items.size none) Q E s := by
  have hlt : t ≠ s.heap.objs.size := by obtain ⟨o, ho, _⟩ := ht; exact Nat.ne_of_lt (Heap.lt_size ho)
  unfold unpackItems
  refine wpAny_bind ?_
  · unfold notIterableAtAll
    refine wpAny_bind (wpAny_specialOf ht.typeIs PySem.F.slot_list_iter.lookup ?_)
    refine wpAny_pure ?_
    simp only [Bool.false_eq_true, if_false]
    refine wpAny_bind (wpAny_holding (wpAny_pyIter_list ht ?_))
    refine wpAny_bind (wpAny_holding (draw_list hlt items.size 0 _ _ ⟨_, Heap.get?_push_size _ rfl, rfl, rfl⟩ (isList_push ht) (by omega) fun h₁ hit₁ hs₁ => ?_))
    have hall : List.take items.size (List.drop 0 items.toList) = items.toList := by
      rw [List.drop_zero]; exact List.take_of_length_le (by simp)
    rw [hall]
    rw [if_neg (by simp)]
    have ht₁ : h₁.IsList t items := isList_ext (isList_push ht) hs₁.extBut hlt
    refine wpAny_bind (wpAny_holding (wpAny_pyNext_list_end hh hit₁ ht₁ (by simp) fun h₂ he₂ => ?_))
    simp only [Option.isSome_none, Bool.false_eq_true, if_false]
    refine wpAny_pure (hQ h₂ fun b o hb e => he₂ b o hb (hs₁.extBut b o hb (Heap.get?_push_of_some _ e)))
theorem assign_Tuple_list {env : Env} {elts : List Expr} {x1} {pos : Pos} {t : Addr} {items : Array Value} {Q : Unit → Shared → Prop} (hh : A.handled = none) (ht : s.heap.IsList t items)
    (hn : (assignEach elts env).length = items.size) (hstar : (assignEach elts env).findIdx? (·.1) = none)
    (h : ∀ h', Heap.ExtBut s.heap.objs.size s.heap h' → wpAny (model prog w) A (assignInOrder ((assignEach elts env).map (·.2)) items.toList) Q E { s with heap := h' }) :
    wpAny (model prog w) A (assign (.Tuple elts x1 pos) env (.ref t)) Q E s := by
  rw [PyProof.Rows.assign_Tuple]
  refine wpAny_bind (wpAny_standAt ?_)
  unfold unpack
  rw [hn, hstar]
  exact wpAny_bind (wpAny_holding (unpackItems_list hh ht h))
end
/-- (a, b, ..) = a list of that length -/
def gTupL (K : PySem.W.Frag) (n : Nat) (t : TGs) : TG := fun v σ H Q => ∃ a xs, v = .ref a ∧ SqL K H a xs ∧ xs.length = n ∧ t xs σ H Q
theorem pg_tupL {X : Cx} {es : List Expr} {k : Nat} {pos : Pos} {t : TGs} {n : Nat} (hc : X.calm = true) (h : PGs X es t)
    (hn : (assignEach es X.env).length = n := by rfl) (hst : (assignEach es X.env).findIdx? (·.1) = none := by rfl) : PG X (.Tuple es k pos) (gTupL X.K n t) := by
  refine ⟨fun pins s σ H v u Q I r hw => ?_⟩
  obtain ⟨a, xs, e1, hq, hl, hw⟩ := hw
  subst e1
  cases r
  obtain ⟨its, rv, ⟨o, m, e, hcl, _, d⟩, hz⟩ := I.list hq
  refine assign_Tuple_list (I.ok.hd hc) ⟨o, e, hcl, m, d⟩ (by simp [hn, ← hl, rv.length]) hst fun h' hx => ?_
  have I1 : Inv X pins σ H { s with heap := h' } := I.kept (t' := s.toks) fun b o e => hx b o (Nat.ne_of_lt (Heap.lt_size e)) e
  exact h.run pins _ σ H xs _ Q I1 (by simpa using rv) hw
end Lm

namespace Lm
open PySem PySem.W PySem.Calls PyProof.Rows
open AutoSeq1 (wpAny_loadPart')
section
variable {prog : Program} {w : World} {A : Around} {E : Value → Shared → Prop} {s : Shared} {K : Frag} {x C L f dx : Addr} {h₀ : Heap} {m : Str → Option Value} {od : Option Obj}
theorem int_eq_ins (n : Int) (t : Tok) (x : Addr) {C dx : Addr} : GivesAt (fun s => s.heap.get? x = some (instObj C dx)) (Builtin.«int.__eq__» ⟨[.int n t, .ref x], []⟩) (.val .notImplemented) := by
  intro prog w A R s hx h
  obtain ⟨hp, g, d, tk, os⟩ := s
  have hx : hp.get? x = some (instObj C dx) := hx
  wp_walk using wpAny_load hx, wpAny_loadPart' hx
  exact h
theorem str_eq_ins (n : Str) (t : Tok) (x : Addr) {C dx : Addr} : GivesAt (fun s => s.heap.get? x = some (instObj C dx)) (Builtin.«str.__eq__» ⟨[.str n t, .ref x], []⟩) (.val .notImplemented) := by
  intro prog w A R s hx h
  obtain ⟨hp, g, d, tk, os⟩ := s
  have hx : hp.get? x = some (instObj C dx) := hx
  wp_walk using wpAny_load hx, wpAny_loadPart' hx
  exact h
theorem list_eq_ins (l x : Addr) {items : Array Value} {n : Nat} {dd : Option Addr} {sl : Array (Option Value)} : GivesAt (fun s => s.heap.get? l = some { cls := .type "list", dict := dd, data := .seq items n, slots := sl } ∧ ∀ prog w, Looks (model prog w) s.heap (isInstance (.ref x) (.type "list")) false)
    (Builtin.«list.__eq__» ⟨[.ref l, .ref x], []⟩) (.val .notImplemented) := by
  intro prog w A R s ⟨hl, hi⟩ h
  obtain ⟨hp, g, d, tk, os⟩ := s
  have hi := hi prog w
  wp_walk using hi.here, wpAny_loadPart' hl
  exact h
theorem tuple_eq_ins (l x : Addr) {items : Array Value} {n : Nat} {dd : Option Addr} {sl : Array (Option Value)} : GivesAt (fun s => s.heap.get? l = some { cls := .type "tuple", dict := dd, data := .seq items n, slots := sl } ∧ ∀ prog w, Looks (model prog w) s.heap (isInstance (.ref x) (.type "tuple")) false)
    (Builtin.«tuple.__eq__» ⟨[.ref l, .ref x], []⟩) (.val .notImplemented) := by
  intro prog w A R s ⟨hl, hi⟩ h
  obtain ⟨hp, g, d, tk, os⟩ := s
  have hi := hi prog w
  wp_walk using hi.here, wpAny_loadPart' hl
  exact h
/-- v == x, v of a built-in type whose own == declines, x an instance with an own == -/
theorem eq_refl_K {Q : Value → Shared → Prop} {v : Value} {T id : String} {ox : Obj} (hu : A.units < cLine) (F : Fr h₀ L s.heap m) (X₀ : K.In h₀) (I : InstAt s.heap x ox C od) (hT : s.TypeIs v T) (slot : Slot T (cmpInfo .Eq).2.1 id)
    (hsub : subIn K (.ref C) (.type T) = some false) (hs : findIn K (.ref C) "__eq__" = some (some (.ref f))) (hf : isFn K (.ref f) = true)
    (hc : ∀ Q' : Value → Shared → Prop, Q' .notImplemented s → wpAny (model prog w) A (call (.builtin id) [v, .ref x]) Q' E s)
    (h : wpAny (model prog w) A (call (.ref f) [.ref x, v]) (PySem.W.CmpBack Q) E s) : wpAny (model prog w) A (richCompare .Eq v (.ref x)) Q E s := by
  have X := X₀.keeps F.keep
  have two : wpAny (model prog w) A (tryCompare (.ref x) "__eq__" v) (fun r s' => ∃ u, r = some u ∧ Q u s') E s := by
    unfold tryCompare
    refine wpAny_bind (ifBound_K X I hs hf (wpAny_mono h (fun v s' hv => ?_) fun _ _ e => e))
    cases v <;> first | exact hv.elim | exact wpAny_pure ⟨_, rfl, hv⟩
  have hne : (Value.type T != Value.ref C) = true := by
    rw [bne_iff_ne]; intro z; cases z
  simp only [richCompare, cmpInfo, hT.oneThing_none] at slot ⊢
  refine wpAny_holding ?_
  refine wpAny_bind (wpAny_cRoomFor hu ?_)
  refine wpAny_bind (wpAny_typeOf hT (wpAny_bind (I.type.here ?_)))
  simp only [hne, if_true]
  refine wpAny_bind ((looks_subIn X hsub).here ?_)
  simp only [Bool.false_eq_true, if_false, Bool.not_false, if_true]
  refine wpAny_bind (m := tryCompare v _ (.ref x)) (wpAny_tryCompare_declines hT slot (hc _ ⟨rfl, ?_⟩))
  refine wpAny_bind (wpAny_mono two (fun r s' z => ?_) fun _ _ e => e)
  obtain ⟨u, rfl, hq⟩ := z
  exact wpAny_pure hq
end
end Lm

namespace Lm
open PySem L2 RZ
theorem walk_zipT {K : PySem.W.Frag} {a b : Addr} {xs ys : List V} {n : Nat} (hn : n = min xs.length ys.length) : Walk (ItzT K a b) n (fun H => SqT K H a xs ∧ SqT K H b ys) (YPair (fun i => xs[i]?) (fun i => ys[i]?)) := by
  subst hn
  refine ⟨fun i _ hi q => ?_, fun _ q => ⟨xs, ys, q.1, q.2, by omega⟩, fun i H v H' _ q y => ?_⟩
  · have h1 : i < xs.length := by omega
    have h2 : i < ys.length := by omega
    exact ⟨xs, ys, xs[i], ys[i], q.1, q.2, by simp [h1], by simp [h2]⟩
  · obtain ⟨T, x, z, h1, h2, h3, h4, h5⟩ := y
    exact ⟨T, x, z, h1, h2, h3, h4 xs q.1, h5 ys q.2⟩
/-- built-in values whose own == declines an instance -/
inductive TyE (H : Hp) : V → String → Prop where
  | non : TyE H .non "NoneType"
  | int (i : Int) : TyE H (.int i) "int"
  | str (x : Str) : TyE H (.str x) "str"
  | lst {a : Addr} {xs : List V} (e : H a = some (.lst xs)) : TyE H (.ref a) "list"
  | tup {a : Addr} {xs : List V} (e : H a = some (.tup xs)) : TyE H (.ref a) "tuple"
section
variable {X : Cx} {CX : CXT} {k : Nat} {f C : Addr} {fd : FuncData} {ps : List Str} {sp : Sp} {E : XK}
theorem op_or {op : Value → Value → Sem Value} {r r' : R2} (h : OpR X op r) (h' : OpR X op r') : OpR X op (fun x y H Q => r x y H Q ∨ r' x y H Q) := by
  intro pins s σ H x y v u Q I rx ry q
  rcases q with q | q
  · exact h pins s σ H x y v u Q I rx ry q
  · exact h' pins s σ H x y v u Q I rx ry q
/-- x == y, x an instance with an own ==, y anything -/
def rEqL (K : PySem.W.Frag) (C : Addr) (sp : Sp) (E : XK) : R2 := fun x y H Q => ∃ a dx fs t, x = .ref a ∧ H a = some (.ins C dx fs) ∧ TyX K H y t ∧ PySem.W.notFirst K C t = true ∧ sp [x, y] H Q E
theorem op_eqL (F : FnOk X.prog X.w X.K X.mg X.base CX k f fd ps sp) (hs : PySem.W.findIn X.K (.ref C) "__eq__" = some (some (.ref f))) (hf : PySem.W.isFn X.K (.ref f) = true) (hb : Binds X.K fd ps []) (hr : Room k X.A) (hx : Passes CX X E) :
    OpR X (compareOp .Eq) (rEqL X.K C sp E) := by
  intro pins s σ H x y v u Q I rx ry h
  obtain ⟨a, dx, fs, t, rfl, ha, ty, hn, q⟩ := h
  cases (show v = Value.ref a from rx)
  obtain ⟨mA, J, _⟩ := ins_get I.hok ha
  obtain ⟨od, J, _⟩ := J.look
  obtain ⟨P, Z, p, _⟩ := kit_of I ry ty
  obtain ⟨m, hF⟩ := I.fr
  show wpAny _ _ (richCompare .Eq _ _) _ _ _
  refine PySem.W.cmp_K (op := .Eq) (tb := t) hr.units0 hF I.ok.mod.kin J (Z.ty _ _ I.kIn p) hn hs hf (wpAny_mono (run_in (us := [.ref a, u]) (vs := [.ref a, y]) F hr I.env0 hb hx I (.cons rfl (.cons ry .nil)) q) (fun w s' z => ?_) fun _ _ x => x)
  obtain ⟨z', H', I', rz, qz⟩ := z
  exact cmpBack rz ⟨z', H', I', rz, qz⟩
/-- x != y, x an instance with an own == alone, y anything -/
def rNeL (K : PySem.W.Frag) (C : Addr) (sp : Sp) (E : XK) : R2 := fun x y H Q => ∃ a dx fs t, x = .ref a ∧ H a = some (.ins C dx fs) ∧ TyX K H y t ∧ PySem.W.notFirst K C t = true ∧ sp [x, y] H (fun z H' => ∃ k : Bool, z = .bl k ∧ Q (.bl (!k)) H') E
theorem op_neL (F : FnOk X.prog X.w X.K X.mg X.base CX k f fd ps sp) (hs : PySem.W.findIn X.K (.ref C) "__eq__" = some (some (.ref f))) (hf : PySem.W.isFn X.K (.ref f) = true) (hb : Binds X.K fd ps [])
    (hn : PySem.W.findIn X.K (.ref C) "__ne__" = some (some (.builtin "object.__ne__"))) (ho : PySem.W.subIn X.K (.ref C) (.type "object") = some true) (hr : Room (k + 1) X.A) (hx : Passes CX X E) :
    OpR X (compareOp .NotEq) (rNeL X.K C sp E) := by
  intro pins s σ H x y v u Q I rx ry h
  obtain ⟨a, dx, fs, t, rfl, ha, ty, hnf, q⟩ := h
  cases (show v = Value.ref a from rx)
  obtain ⟨mA, J, _⟩ := ins_get I.hok ha
  obtain ⟨od, J, _⟩ := J.look
  obtain ⟨P, Z, p, _⟩ := kit_of I ry ty
  obtain ⟨m, hF⟩ := I.fr
  show wpAny _ _ (richCompare .NotEq _ _) _ _ _
  refine ne_own (tb := t) (by have := hr.un; omega) hF I.ok.mod.kin J (Z.ty _ _ I.kIn p) hnf hn ho hs hf
    (wpAny_mono (run_in (us := [.ref a, u]) (vs := [.ref a, y]) F hr.in1 I.env0.in1 hb hx I (.cons rfl (.cons ry .nil)) q) (fun w s' z => ?_) fun _ _ x => x)
  obtain ⟨z', H', I', rz, b, ez, qz⟩ := z
  subst ez
  cases (show w = Value.bool b from rz)
  exact ⟨b, rfl, .bl _, H', I', rfl, qz⟩
/-- x == y, x of a built-in type, y an instance with an own == -/
def rEqR (K : PySem.W.Frag) (C : Addr) (sp : Sp) (E : XK) : R2 := fun x y H Q => ∃ b dy gs T, y = .ref b ∧ H b = some (.ins C dy gs) ∧ TyE H x T ∧ PySem.W.subIn K (.ref C) (.type T) = some false ∧ sp [y, x] H Q E
theorem op_eqR (F : FnOk X.prog X.w X.K X.mg X.base CX k f fd ps sp) (hs : PySem.W.findIn X.K (.ref C) "__eq__" = some (some (.ref f))) (hf : PySem.W.isFn X.K (.ref f) = true) (hb : Binds X.K fd ps []) (hr : Room k X.A) (hx : Passes CX X E) :
    OpR X (compareOp .Eq) (rEqR X.K C sp E) := by
  intro pins s σ H x y v u Q I rx ry h
  obtain ⟨b, dy, gs, T, rfl, hb', ty, hsub, q⟩ := h
  cases (show u = Value.ref b from ry)
  obtain ⟨mA, J, _⟩ := ins_get I.hok hb'
  obtain ⟨od, J, _⟩ := J.look
  obtain ⟨m, hF⟩ := I.fr
  show wpAny _ _ (richCompare .Eq _ _) _ _ _
  have run : wpAny (model X.prog X.w) X.A (call (.ref f) [.ref b, v]) (PySem.W.CmpBack (EP X pins σ Q)) X.xe s := by
    refine wpAny_mono (run_in (us := [.ref b, v]) (vs := [.ref b, x]) F hr I.env0 hb hx I (.cons rfl (.cons rx .nil)) q) (fun w s' z => ?_) fun _ _ x => x
    obtain ⟨z', H', I', rz, qz⟩ := z
    exact cmpBack rz ⟨z', H', I', rz, qz⟩
  have hin : ∀ (T : String), PySem.W.subIn X.K (.ref C) (.type T) = some false → ∀ prog w, PySem.W.Looks (model prog w) s.heap (isInstance (.ref b) (.type T)) false := fun T h prog w => J.type.andThen (PySem.W.looks_subIn I.kIn h)
  cases ty with
  | non =>
    cases (show v = Value.none from rx)
    exact eq_refl_K hr.units0 hF I.ok.mod.kin J rfl PySem.F.slot_NoneType_eq hsub hs hf (fun Q' hq => call_gives PySem.F.slot_NoneType_eq rfl PySem.F.entry_NoneType_eq (PySem.F.args_NoneType_eq_2 _ _) (SeqAt.NoneType___eq___none_ref_0 b) hq) run
  | int i =>
    obtain ⟨t, e⟩ := (show ∃ t, v = Value.int i t from rx)
    subst e
    exact eq_refl_K hr.units0 hF I.ok.mod.kin J (typeIs_int _ i t) PySem.F.slot_int_eq hsub hs hf (fun Q' hq => PySem.call_givesAt PySem.F.slot_int_eq (typeIs_int _ i t) PySem.F.entry_int_eq (PySem.F.args_int_eq_2 _ _) (int_eq_ins i t b) J.at_ hq) run
  | str i =>
    obtain ⟨t, e⟩ := (show ∃ t, v = Value.str i t from rx)
    subst e
    exact eq_refl_K hr.units0 hF I.ok.mod.kin J (typeIs_str _ i t) PySem.F.slot_str_eq hsub hs hf (fun Q' hq => PySem.call_givesAt PySem.F.slot_str_eq (typeIs_str _ i t) PySem.F.entry_str_eq (PySem.F.args_str_eq_2 _ _) (str_eq_ins i t b) J.at_ hq) run
  | @lst a xs e =>
    cases (show v = Value.ref a from rx)
    obtain ⟨_, _, n, _, h1⟩ := (show ObjOk X.prog X.w H s.heap a (.lst xs) from I.hok a _ e)
    exact eq_refl_K hr.units0 hF I.ok.mod.kin J ⟨_, h1, rfl⟩ PySem.F.slot_list_eq hsub hs hf (fun Q' hq => PySem.call_givesAt PySem.F.slot_list_eq ⟨_, h1, rfl⟩ PySem.F.entry_list_eq (PySem.F.args_list_eq_2 _ _) (list_eq_ins a b) ⟨h1, hin _ hsub⟩ hq) run
  | @tup a xs e =>
    cases (show v = Value.ref a from rx)
    obtain ⟨_, _, _, ⟨oc, od', dt, sl⟩, h1, h2, n, h3⟩ := (show ObjOk X.prog X.w H s.heap a (.tup xs) from I.hok a _ e)
    simp only at h2 h3
    subst h2 h3
    exact eq_refl_K hr.units0 hF I.ok.mod.kin J ⟨_, h1, rfl⟩ PySem.F.slot_tuple_eq hsub hs hf (fun Q' hq => PySem.call_givesAt PySem.F.slot_tuple_eq ⟨_, h1, rfl⟩ PySem.F.entry_tuple_eq (PySem.F.args_tuple_eq_2 _ _) (tuple_eq_ins a b) ⟨h1, hin _ hsub⟩ hq) run
theorem MetOk.eqL (D : MetOk X.prog X.w X.K X.mg X.base k C "__eq__" f fd ps sp) (hr : Room k X.A) : OpR X (compareOp .Eq) (rEqL X.K C sp E0) := op_eqL D.ok D.mt.at_ D.mt.fn D.bd hr pass0
theorem MetOk.eqR (D : MetOk X.prog X.w X.K X.mg X.base k C "__eq__" f fd ps sp) (hr : Room k X.A) : OpR X (compareOp .Eq) (rEqR X.K C sp E0) := op_eqR D.ok D.mt.at_ D.mt.fn D.bd hr pass0
theorem MetOk.neL (D : MetOk X.prog X.w X.K X.mg X.base k C "__eq__" f fd ps sp) (hn : PySem.W.findIn X.K (.ref C) "__ne__" = some (some (.builtin "object.__ne__"))) (ho : PySem.W.subIn X.K (.ref C) (.type "object") = some true) (hr : Room (k + 1) X.A) :
    OpR X (compareOp .NotEq) (rNeL X.K C sp E0) := op_neL D.ok D.mt.at_ D.mt.fn D.bd hn ho hr pass0
end
def rAddS : R2 := fun x y H Q => ∃ i j, x = .str i ∧ y = .str j ∧ i.length + j.length ≤ sizeLine ∧ Q (.str (i ++ j)) H
/-! ### C(k2 = b, k1 = a) -/
def swapR {α : Type} (us ws : List α) : List α := us ++ ws.reverse
theorem vals_snoc : ∀ {vs : List V} {us : List Value} {v : V} {u : Value}, Vals vs us → RelV v u → Vals (vs ++ [v]) (us ++ [u])
  | _, _, _, _, .nil, r => .cons r .nil
  | _, _, _, _, .cons a b, r => .cons a (vals_snoc b r)
theorem vals_rev : ∀ {vs : List V} {us : List Value}, Vals vs us → Vals vs.reverse us.reverse
  | _, _, .nil => .nil
  | _, _, .cons a b => by rw [List.reverse_cons, List.reverse_cons]; exact vals_snoc (vals_rev b) a
theorem vals_app : ∀ {vs : List V} {us : List Value} {ws : List V} {zs : List Value}, Vals vs us → Vals ws zs → Vals (vs ++ ws) (us ++ zs)
  | _, _, _, _, .nil, r => r
  | _, _, _, _, .cons a b, r => .cons a (vals_app b r)
theorem Fun.swap {K : PySem.W.Frag} {x qual : Str} {st : Stmt} {f : Addr} {fd : FuncData} {ps : List Str} {k1 k2 : Str} (F : Fun K x qual st f fd)
    (h : ∀ (kV doc pm : Value) (an : Option Addr) (cdv ct : Value) (a b c : Value), bindArgs (PySem.W.fnOf x qual (defArgs st) (defBody st) (defScope st) .none kV doc pm an cdv ct) ⟨[a], [(k2, c), (k1, b)]⟩ = pure (ps.zip [a, b, c])) : KBn K fd ps 1 [k2, k1] swapR swapR := by
  obtain ⟨oc, od, kV, doc, pm, an, cdv, ct, osl, rfl, lk, hcd⟩ := F.ex
  refine ⟨fun s us ws X l1 l2 => ?_, fun r1 r2 => vals_app r1 (vals_rev r2)⟩
  match us, ws, l1, l2 with
  | [a], [c, b], _, _ => exact .of_eq (h kV doc pm an cdv ct a b c)
section
variable {X : Cx} {k : Nat} {f C : Addr} {fd : FuncData} {ps ks : List Str} {sp : Sp} {x : Str} {p pos : Pos} {kws : List Keyword} {tk : TA} {g : List Value → List Value → List Value} {gV : List V → List V → List V}
theorem pe_mkK (D : ClsOk X.prog X.w X.K X.mg X.base k x C f fd ps sp) (hb : KBn X.K fd ps 1 ks g gV) (hr : Room (k + 1) X.A) (hkw : PK X kws tk) (hg : Gl X x := by rfl) (hdb : (x == ("__debug__" : Str)) = false := by decide)
    (hall : (backToKw pos (keywordEach kws X.env)).all (·.1.isSome) = true := by rfl) (hks : (backToKw pos (keywordEach kws X.env)).filterMap (·.1) = ks := by rfl)
    (hpl : ((backTo pos (starEach [] X.env)).any (·.1) || (backToKw pos (keywordEach kws X.env)).any (·.1.isNone)) = false := by rfl) :
    PE X (.Call (.Name x p) [] kws pos) (tMakeK C 0 ks.length sp gV E0 tNil tk) := pe_makeK0 D.mkr D.ok hr hg D.mg hb pass0 hkw hall hks hdb hpl
end
end Lm

namespace Lm
open PySem L2
section
variable {X : Cx} {C : Addr} {bmB : List Value} {B newId initId : String}
/-- X(), X an own exception class without own __init__ -/
theorem pmk_own0 {x : Str} {p pos : Pos} (F : ExcBaseFacts B newId initId bmB) (q : PySem.W.excIn X.K C bmB newId = true) (gC : X.mg x = some (.ref C)) (kC : PySem.W.keepIn X.K (.ref C) = true) (r : Raises X (.ref C)) (hg : Gl X x := by rfl) (hdb : (x == ("__debug__" : Str)) = false := by decide) :
    PMk X (.Call (.Name x p) [] [] pos) (fun _ H Q => Q (.ref C) none H) := by
  intro pins s σ H Q I h
  refine wpAny_Call_Name_kw (ld_glob I hg gC ?_ hdb)
  refine PySem.W.callWith_K0 (first := []) I.kIn kC ?_
  show wpAny _ _ (call (.ref C) []) _ _ _
  obtain ⟨bm, N, nm, qn, bs, hdct, sn, sub, ab, col, dd, k0, k1, k2, k3, k5, mN, hC, hN, hni, T⟩ := exc_obj I.kIn q
  refine wpAny_call_exc_subT F T hC hN hni (fun h' e hm => ?_) (Nat.zero_le _)
  exact mk_of I hm r h (I.hok.gone hm.new)
end
/-- what the text says of an own error -/
structure ErrTxt (K : PySem.W.Frag) (mg : Str → Option Value) (x : Str) (C : Addr) : Prop where
  g : mg x = some (.ref C)
  xi : PySem.W.excIn K C [.type "ValueError", .type "Exception", .type "BaseException", .type "object"] "ValueError.__new__" = true
  kp : PySem.W.keepIn K (.ref C) = true
  b : PySem.W.subIn K (.ref C) (.type "BaseException") = some true
  t : PySem.W.typeIn K (.ref C) = some (.type "type")
  ic : PySem.W.isClsIn K C = true
  self : PySem.W.subIn K (.ref C) (.ref C) = some true
/-- an error of the class at S is what «except S» names -/
theorem exm_self {K : PySem.W.Frag} {S : Addr} (h1 : PySem.W.subIn K (.ref S) (.type "BaseException") = some true) (h2 : PySem.W.isClsIn K S = true) (h3 : PySem.W.typeIn K (.ref S) = some (.type "type")) (h4 : PySem.W.subIn K (.ref S) (.ref S) = some true) :
    PySem.W.exmOne K (.ref S) (.ref S) = some true := by
  have e1 : (PySem.W.subIn K (.ref S) (.type "BaseException") == some true) = true := by rw [h1] <;> rfl
  have e2 : ((PySem.W.clsIn K S).isSome && PySem.W.typeIn K (.ref S) == some (.type "type")) = true := by
    have h2' : (PySem.W.clsIn K S).isSome = true := h2
    rw [h2', h3] <;> rfl
  show (if (PySem.W.subIn K (.ref S) (.type "BaseException") == some true) = true then (if ((PySem.W.clsIn K S).isSome && PySem.W.typeIn K (.ref S) == some (.type "type")) = true then PySem.W.subIn K (.ref S) (.ref S) else none) else none) = some true
  rw [if_pos e1, if_pos e2]
  exact h4
theorem ErrTxt.exm {K : PySem.W.Frag} {mg : Str → Option Value} {x : Str} {C : Addr} (T : ErrTxt K mg x C) : PySem.W.exmOne K (.ref C) (.ref C) = some true := exm_self T.b T.ic T.t T.self
theorem ErrTxt.call {X : Cx} {x : Str} {C : Addr} {p pos : Pos} (T : ErrTxt X.K X.mg x C) (hg : Gl X x := by rfl) (hdb : (x == ("__debug__" : Str)) = false := by decide) : PMk X (.Call (.Name x p) [] [] pos) (fun _ H Q => Q (.ref C) none H) :=
  pmk_own0 PySem.F.excBase_ValueError T.xi T.g T.kp (raises_own T.b T.t) hg hdb
/-! ### defs and methods that raise -/
structure DefOkX (P : Program) (w : World) (K : PySem.W.Frag) (mg : Str → Option Value) (base : Heap) (k : Nat) (x : Str) (f : Addr) (fd : FuncData) (ps : List Str) (sp : Sp) : Prop where
  ok : FnOk P w K mg base (L2.CX P w) k f fd ps sp
  kp : PySem.W.keepIn K (.ref f) = true
  bd : Binds K fd ps []
  mg : mg x = some (.ref f)
structure MetOkX (P : Program) (w : World) (K : PySem.W.Frag) (mg : Str → Option Value) (base : Heap) (k : Nat) (C : Addr) (m : Str) (f : Addr) (fd : FuncData) (ps : List Str) (sp : Sp) : Prop where
  ok : FnOk P w K mg base (L2.CX P w) k f fd ps sp
  bd : Binds K fd ps []
  mt : Meth K C m f
  cl : Cls K C
/-- o.m(e, ..) that may raise, at the slots -/
def tMethE (C : Addr) (m : Str) (sp : Sp) (E : St → XK) (ta : TE) (t : TA) : TE := fun σ H Q => ta σ H fun x H1 => ∃ a dx fs, x = .ref a ∧ H1 a = some (.ins C dx fs) ∧ fs.lookup m = none ∧ t σ H1 fun vs H2 => sp (.ref a :: vs) H2 Q (E σ)
/-- o.m(k = v, ..) -/
def tMethK (C : Addr) (m : Str) (n : Nat) (sp : Sp) (gV : List V → List V → List V) (E : XK) (ta : TE) (tk : TA) : TE := fun σ H Q => ta σ H fun x H1 => ∃ a dx fs, x = .ref a ∧ H1 a = some (.ins C dx fs) ∧ fs.lookup m = none ∧ tk σ H1 fun zs H2 => zs.length = n ∧ sp (gV [.ref a] zs) H2 Q E
section
variable {X : Cx} {k : Nat} {f C : Addr} {fd : FuncData} {ps ks : List Str} {sp : Sp} {E : XK} {x m : Str} {p pos apos : Pos} {e o : Expr} {es : List Expr} {kws : List Keyword} {ta : TE} {t tk : TA} {g : List Value → List Value → List Value} {gV : List V → List V → List V}
theorem pe_dX (D : DefOkX X.prog X.w X.K X.mg X.base k x f fd ps sp) (hr : Room k X.A) (hx : Passes (L2.CX X.prog X.w) X E) (ha : PA X (e :: es) t) (hg : Gl X x := by rfl) (hdb : (x == ("__debug__" : Str)) = false := by decide)
    (he : starEach (e :: es) X.env = (false, eval e X.env) :: starEach es X.env := by rfl) (hpl : (backTo pos (starEach es X.env)).any (·.1) = false := by rfl) :
    PE X (.Call (.Name x p) (e :: es) [] pos) (tCall sp [] E t) := pe_call D.ok hr hg D.mg D.kp D.bd .nil hx ha hdb he hpl
theorem pe_mX {pl : Sem Bool} {E : St → XK} (D : MetOkX X.prog X.w X.K X.mg X.base k C m f fd ps sp) (hr : Room k X.A) (hx : ∀ σ, PassesAt (L2.CX X.prog X.w) X σ (E σ)) (he : PE X o ta) (ha : PA X (e :: es) t)
    (hst : starEach (e :: es) X.env = (false, eval e X.env) :: starEach es X.env := by rfl) (hpl : (backTo pos (starEach es X.env)).any (·.1) = false := by rfl)
    (ht : eval (.Call (.Attribute o m apos) (e :: es) [] pos) X.env = (do
      let ov ← eval o X.env
      standAt apos.atName
      let (f, first) ← holding [ov] (getMethod ov m pl)
      callWith pos f first (backTo pos (starEach (e :: es) X.env)) (backToKw pos (keywordEach [] X.env))) := by rfl) :
    PE X (.Call (.Attribute o m apos) (e :: es) [] pos) (tMethE C m sp E ta t) := by
  refine ⟨fun pins s σ H Q I h => ?_⟩
  refine PySem.W.methodCall_KW (pl := pl) (thn (he.run pins s σ H _ I h) fun u s1 ⟨x, H1, I1, rx, a, dx, fs, ex, ea, l, q⟩ => ?_) ht
  subst ex
  obtain rfl : u = Value.ref a := rx
  refine getmeth_ok I1 ea D.cl D.mt l ?_
  refine PySem.W.callWith_K (first := [.ref a]) (h₀ := X.base) I.ok.mod.kin D.mt.kp (thn (ha.run pos pins s1 σ H1 _ I1 q) fun us s2 ⟨vs, H2, I2, r, q2⟩ => ⟨I2.kIn, ?_⟩) hst hpl
  exact run_fnS (us := .ref a :: us) (vs := .ref a :: vs) D.ok hr D.bd (hx σ) I2 (.cons rfl r) q2
theorem pe_mk_ {pl : Sem Bool} (D : MetOk X.prog X.w X.K X.mg X.base k C m f fd ps sp) (hb : KBn X.K fd ps 1 ks g gV) (hr : Room k X.A) (he : PE X o ta) (hkw : PK X kws tk)
    (hall : (backToKw pos (keywordEach kws X.env)).all (·.1.isSome) = true := by rfl) (hks : (backToKw pos (keywordEach kws X.env)).filterMap (·.1) = ks := by rfl)
    (hpl : ((backTo pos (starEach [] X.env)).any (·.1) || (backToKw pos (keywordEach kws X.env)).any (·.1.isNone)) = false := by rfl)
    (ht : eval (.Call (.Attribute o m apos) [] kws pos) X.env = (do
      let ov ← eval o X.env
      standAt apos.atName
      let (f, first) ← holding [ov] (getMethod ov m pl)
      callWith pos f first (backTo pos (starEach [] X.env)) (backToKw pos (keywordEach kws X.env))) := by rfl) :
    PE X (.Call (.Attribute o m apos) [] kws pos) (tMethK C m ks.length sp gV E0 ta tk) := by
  refine ⟨fun pins s σ H Q I h => ?_⟩
  refine PySem.W.methodCall_KW (pl := pl) (thn (he.run pins s σ H _ I h) fun u s1 ⟨x, H1, I1, rx, a, dx, fs, ex, ea, l, q⟩ => ?_) ht
  subst ex
  obtain rfl : u = Value.ref a := rx
  refine getmeth_ok I1 ea D.cl D.mt l ?_
  refine PySem.W.callWith_KW0 (first := [.ref a]) (h₀ := X.base) I.ok.mod.kin D.mt.kp hall ?_ hpl
  refine thn (hkw.run pos pins s1 σ H1 _ I1 q) fun ws s2 ⟨zs, H2, I2, rz, l2, q2⟩ => ⟨I2.kIn, ?_⟩
  rw [hks]
  have r2 := hb.rel (vs := [V.ref a]) (us := [Value.ref a]) (.cons rfl .nil) rz
  show wpAny _ _ (call (.ref f) [.ref a] (ks.zip ws)) _ _ _
  refine wpAny_call (codeAny_mono (D.ok.run X.A X.stack s2 H2 ⟨[.ref a], ks.zip ws⟩ (g [.ref a] ws) (gV [.ref a] zs) Q E0 hr I2.env0 (hb.to s2 [.ref a] ws I2.kIn rfl (rz.length.symm.trans l2)) r2 q2) fun r s' hq => ?_)
  cases r with
  | error e => exact pass0 pins σ H2 s2 e s' I2 hq
  | ok fl =>
    cases fl with
    | ret u => exact I2.after hq
    | next => exact False.elim hq
    | brk => exact False.elim hq
    | cont => exact False.elim hq
end
/-- one keyword alone -/
def oneR {α : Type} (us ws : List α) : List α := us ++ ws
theorem Fun.kone {K : PySem.W.Frag} {x qual : Str} {st : Stmt} {f : Addr} {fd : FuncData} {ps : List Str} {k1 : Str} (F : Fun K x qual st f fd)
    (h : ∀ (kV doc pm : Value) (an : Option Addr) (cdv ct : Value) (a b : Value), bindArgs (PySem.W.fnOf x qual (defArgs st) (defBody st) (defScope st) .none kV doc pm an cdv ct) ⟨[a], [(k1, b)]⟩ = pure (ps.zip [a, b])) : KBn K fd ps 1 [k1] oneR oneR := by
  obtain ⟨oc, od, kV, doc, pm, an, cdv, ct, osl, rfl, lk, hcd⟩ := F.ex
  refine ⟨fun s us ws X l1 l2 => ?_, fun r1 r2 => vals_app r1 r2⟩
  match us, ws, l1, l2 with
  | [a], [b], _, _ => exact .of_eq (h kV doc pm an cdv ct a b)
end Lm

namespace Lm
open PySem L2 PyProof.Rows PySem.Spec
theorem tuple_mul_same (l : Addr) (items : Array Value) (n : Nat) (dd : Option Addr) (sl : Array (Option Value)) (x : Int) (u : Tok) (c0 : (decide (x < -(2 ^ 63)) || decide (x ≥ 2 ^ 63)) = false) (c1 : (items.isEmpty || x == 1) = true) :
    Meets (Builtin.«tuple.__mul__» ⟨[.ref l, .int x u], []⟩) (fun _ R s => s.heap.get? l = some { cls := .type "tuple", dict := dd, data := .seq items n, slots := sl } ∧ R (.ok (.ret (Value.ref l))) s) :=
  .of_wp fun prog w A R s h => by
    obtain ⟨hp, g, d, tk, os⟩ := s
    obtain ⟨hl, h⟩ := h
    have f1 := AutoSeq1.idx_int
    wp_walk using wpAny_loadPart' hl, wpAny_load hl
    repeat (first
      | (refine wpAny_ite_false (decide_eq_false (by rw [c0]; exact Bool.false_ne_true)) ?_; wp_walk using wpAny_loadPart' hl, wpAny_load hl)
      | (refine wpAny_ite_true (decide_eq_true (by rw [c1])) ?_; wp_walk using wpAny_loadPart' hl, wpAny_load hl))
    all_goals first | exact ⟨_, rfl, h⟩ | exact h | skip
theorem tuple_mul_zero (l : Addr) (items : Array Value) (n : Nat) (dd : Option Addr) (sl : Array (Option Value)) (x : Int) (u : Tok) (c0 : (decide (x < -(2 ^ 63)) || decide (x ≥ 2 ^ 63)) = false) (c1 : (items.isEmpty || x == 1) = false) (c2 : (decide (x ≤ 0) || items.isEmpty) = true) :
    Meets (Builtin.«tuple.__mul__» ⟨[.ref l, .int x u], []⟩) (fun _ R s => s.heap.get? l = some { cls := .type "tuple", dict := dd, data := .seq items n, slots := sl } ∧ 
      R (.ok (.ret (Value.ref s.heap.objs.size))) { s with heap := s.heap.push { cls := Value.type "tuple", data := Data.seq #[] }, toks := s.toks }) :=
  .of_wp fun prog w A R s h => by
    obtain ⟨hp, g, d, tk, os⟩ := s
    obtain ⟨hl, h⟩ := h
    have f1 := AutoSeq1.idx_int
    wp_walk using wpAny_loadPart' hl
    repeat (first
      | (refine wpAny_ite_false (decide_eq_false (by rw [c0]; exact Bool.false_ne_true)) ?_; wp_walk using wpAny_loadPart' hl)
      | (refine wpAny_ite_false (decide_eq_false (by rw [c1]; exact Bool.false_ne_true)) ?_; wp_walk using wpAny_loadPart' hl)
      | (refine wpAny_ite_true (decide_eq_true (by rw [c2])) ?_; wp_walk using wpAny_loadPart' hl))
    all_goals first | exact ⟨_, rfl, h⟩ | exact h | skip
def rRepTA (K : PySem.W.Frag) : R2 := fun x y H Q => ∃ l k xs, x = .ref l ∧ y = .int k ∧ SqT K H l xs ∧ 0 ≤ k ∧ k ≤ 1000 ∧ xs.length ≤ 1000 ∧ ((xs = [] ∨ k = 1) → Q (.ref l) H) ∧ (¬ (xs = [] ∨ k = 1) → ∀ p, H p = none → Q (.ref p) (upd H p (.tup (List.replicate k.toNat xs).flatten)))
section
variable {X : Cx}
theorem op_repTA : OpR X (binaryOp .Mult) (rRepTA X.K) := by
  intro pins s σ H x y v u Q I rx ry h
  obtain ⟨l, k, xs, rfl, rfl, hT, h1, h2, hz, q1, q2⟩ := h
  by_cases hsame : xs = [] ∨ k = 1
  · have q1 := q1 hsame
    cases rx
    obtain ⟨t, rfl⟩ := ry
    obtain ⟨its, r, ⟨⟨cls, dd, data, sl⟩, ho, hc, n, hd⟩, hs⟩ := I.tuple hT
    simp only at hc hd
    subst hc hd
    have hle : its.length = xs.length := r.length.symm
    have c0 : (decide (k < -(2 ^ 63)) || decide (k ≥ 2 ^ 63)) = false := by
      rw [decide_eq_false (by omega), decide_eq_false (by omega)] <;> rfl
    have c1 : (its.toArray.isEmpty || k == 1) = true := by
      rcases hsame with e | e
      · rw [e] at hle
        have : its = [] := List.eq_nil_of_length_eq_zero hle
        rw [this]
        rfl
      · rw [e]
        cases its <;> rfl
    refine wpAny_binaryOp_repeat_ref (T := "tuple") (U := "int") (by decide) ⟨_, ho, rfl⟩ (fun s' => typeIs_int s' k t) noFill_tuple_mul F.fills_int_mul F.slot_int_rmul repeat_tuple F.slot_int_index.lookup
      (call_meets F.slot_int_rmul (typeIs_int s k t) F.entry_int_rmul (F.args_int_rmul_2 _ _) (int_rmul_tuple k t l its.toArray n dd sl)
        ⟨ho, rfl, ⟨_, ho, rfl⟩, call_meets F.slot_tuple_mul ⟨_, ho, rfl⟩ F.entry_tuple_mul (F.args_tuple_mul_2 _ _) (tuple_mul_same l its.toArray n dd sl k t c0 c1) ⟨ho, ?_⟩⟩)
    exact ⟨.ref l, H, I, rfl, q1⟩
  · have q2 := q2 hsame
    have hne : xs ≠ [] := fun e => hsame (.inl e)
    have hk1 : k ≠ 1 := fun e => hsame (.inr e)
    by_cases hk : 2 ≤ k
    · exact op_repT pins s σ H _ _ v u Q I rx ry ⟨l, k, xs, rfl, rfl, hT, hne, hk, h2, hz, q2⟩
    · have hk0 : k = 0 := by omega
      subst hk0
      cases rx
      obtain ⟨t, rfl⟩ := ry
      obtain ⟨its, r, ⟨⟨cls, dd, data, sl⟩, ho, hc, n, hd⟩, hs⟩ := I.tuple hT
      simp only at hc hd
      subst hc hd
      have hle : its.length = xs.length := r.length.symm
      have hn : its ≠ [] := fun e => hne (by
        rw [e] at hle
        exact List.eq_nil_of_length_eq_zero hle.symm)
      have hi : its.toArray.isEmpty = false := by
        cases its with
        | nil => exact absurd rfl hn
        | cons a b => rfl
      refine wpAny_binaryOp_repeat_ref (T := "tuple") (U := "int") (by decide) ⟨_, ho, rfl⟩ (fun s' => typeIs_int s' 0 t) noFill_tuple_mul F.fills_int_mul F.slot_int_rmul repeat_tuple F.slot_int_index.lookup
        (call_meets F.slot_int_rmul (typeIs_int s 0 t) F.entry_int_rmul (F.args_int_rmul_2 _ _) (int_rmul_tuple 0 t l its.toArray n dd sl)
          ⟨ho, rfl, ⟨_, ho, rfl⟩, call_meets F.slot_tuple_mul ⟨_, ho, rfl⟩ F.entry_tuple_mul (F.args_tuple_mul_2 _ _) (tuple_mul_zero l its.toArray n dd sl 0 t (by decide) (by rw [hi]; rfl) (by rw [hi]; rfl)) ⟨ho, ?_⟩⟩)
      refine ⟨.ref s.heap.objs.size, _, I.laid (t' := s.toks) (o := .tup (List.replicate (0 : Int).toNat xs).flatten) (fun b ob q => Heap.get?_push_of_some _ q) (Nat.le_refl _) ?_, rfl, q2 _ (I.hok.fresh (Nat.le_refl _))⟩
      exact ⟨by show 0 ≤ sizeLine; decide, _, .nil, IsTup.new _ _⟩
end
end Lm

namespace Lm
open PySem L2 Evl
/-! ### own errors whose __init__ keeps one thing -/
/-- what the text says of an own error with __init__ -/
structure ErrF (K : PySem.W.Frag) (mg : Str → Option Value) (x : Str) (C fI : Addr) (fn : Str) : Prop where
  g : mg x = some (.ref C)
  T : OexC K C
  X : XfC K C
  ini : PySem.W.findIn K (.ref C) "__init__" = some (some (.ref fI))
  ty : PySem.W.typeIn K (.ref fI) = some (.type "function")
  no : PySem.W.findIn K (.ref C) fn = some none
  ic : PySem.W.isClsIn K C = true
  self : PySem.W.subIn K (.ref C) (.ref C) = some true
theorem ErrF.exm {K : PySem.W.Frag} {mg : Str → Option Value} {x : Str} {C fI : Addr} {fn : Str} (T : ErrF K mg x C fI fn) : PySem.W.exmOne K (.ref C) (.ref C) = some true := exm_self T.T.exC T.ic T.T.tyC T.self
def spErrI (C : Addr) (fn : Str) : Sp := fun vs H Q _ => ∃ (a : Addr) (v : V), vs = [.ref a, v] ∧ H a = some (exo a C none) ∧ ∀ dx, H dx = none → dx ≠ a → Q .non (upd (upd H dx (exd dx [(fn, v)])) a (exo a C (some dx)))
theorem go_mkO {C : Addr} {fn : Str} {te : TE} {σ : L2.St} {H : Hp} {Q : XK} {v : V} (h : Ev te σ H v) (k : ∀ H1 d, Ex H H1 → H1 d = none → Q (.ref C) (some d) (upd H1 d (.xd [(fn, v)]))) : tMkO C (spErrI C fn) [] (tCons te tNil) σ H Q :=
  h H (Ex.refl H) _ fun H1 e1 => ⟨by show 1 ≤ 1000; decide, fun a na => ⟨a, v, rfl, upd_same, fun dx ndx hda => ⟨rfl, dx, [(fn, v)], upd_same, by rw [upd_ne hda]; exact upd_same, by rw [upd_ne hda] at ndx; exact ndx, by
    have hn : H1 dx = none := by rw [upd_ne hda] at ndx; exact ndx
    have e : upd (del (upd (upd (upd H1 a (exo a C none)) dx (exd dx [(fn, v)])) a (exo a C (some dx))) a) dx (.xd [(fn, v)]) = upd H1 dx (.xd [(fn, v)]) := by
      funext b
      by_cases hb : b = dx
      · subst hb
        rw [upd_same, upd_same]
      · rw [upd_ne hb, upd_ne hb]
        by_cases hba : b = a
        · subst hba
          rw [del_same, na]
        · rw [del_ne hba, upd_ne hba, upd_ne hb, upd_ne hba]
    rw [e]
    exact k H1 dx e1 hn⟩⟩⟩
end Lm

namespace Lm
open PySem L2 PyProof.Rows PySem.Spec
section
variable {M : Model} {A : Around} {E : Value → Shared → Prop} {s : Shared} {K : PySem.W.Frag} {pos : Pos} {x C : Addr} {first : List Value} {Q : Value → Shared → Prop}
/-- the instance as it stands at each time -/
def InsK (K : PySem.W.Frag) (x C : Addr) (h : Heap) : Prop := ∃ ox od, K.In h ∧ PySem.W.InstAt h x ox C od ∧ ox.data = .plain
theorem callWith_ins {args : List (Bool × Sem Value)} {keywords : List (Option Str × Sem Value)} (hplain : (args.any (·.1) || keywords.any (·.1.isNone)) = false)
    (h : wpAny M A (evalArgs (.ref x) true args keywords) (fun a s₁ => InsK K x C s₁.heap ∧ wpAny M A (call (.ref x) (first ++ a.pos) a.kw) Q E s₁) E s) : wpAny M A (callWith pos (.ref x) first args keywords) Q E s := by
  unfold callWith
  refine wpAny_bind (wpAny_holding (wpAny_mono h (fun a s₁ h₁ => wpAny_bind (wpAny_standAt ?_)) fun _ _ y => y))
  obtain ⟨⟨ox, od, X, I, hd⟩, hc⟩ := h₁
  have L := PySem.W.kco_keeper (M := M) I hd
  simp only [hplain]
  refine wpAny_bind (L.here ?_)
  exact wpAny_bind (wpAny_mono (wpAny_operateT hc) (fun r s₂ hr => wpAny_bind (wpAny_holding (wpAny_point (wpAny_pure hr)))) fun _ _ y => y)
end
/-- what the text says of own __call__ -/
structure CallM (K : PySem.W.Frag) (C g : Addr) : Prop where
  at_ : PySem.W.findIn K (.ref C) "__call__" = some (some (.ref g))
  isF : PySem.W.isFn K (.ref g) = true
  fn : PySem.W.fnIn K g = true
/-- the i-th slot holds an instance, which is called -/
def tCallO (i : Nat) (C : Addr) (sp : Sp) (E : L2.St → XK) (t : TA) : TE := fun σ H Q => ∃ a, σ[i]? = some (some (.ref a)) ∧ t σ H fun vs H1 => (∃ dx fs, H1 a = some (.ins C dx fs)) ∧ sp (.ref a :: vs) H1 Q (E σ)
def tCallOk (i : Nat) (C : Addr) (n : Nat) (sp : Sp) (gV : List V → List V → List V) (E : XK) (tk : TA) : TE := fun σ H Q => ∃ a, σ[i]? = some (some (.ref a)) ∧ tk σ H fun zs H1 => (∃ dx fs, H1 a = some (.ins C dx fs)) ∧ zs.length = n ∧ sp (gV [.ref a] zs) H1 Q E
section
variable {X : Cx} {CX : CXT} {k i : Nat} {f C : Addr} {fd : FuncData} {ps ks : List Str} {sp : Sp} {x : Str} {p pos : Pos} {e : Expr} {es : List Expr} {kws : List Keyword} {t tk : TA} {g : List Value → List Value → List Value} {gV : List V → List V → List V}
theorem ins_k {pins : List (Addr × Obj)} {σ : L2.St} {H : Hp} {s : Shared} {a dx : Addr} {fs : List (Str × V)} (I : Inv X pins σ H s) (h : H a = some (.ins C dx fs)) : InsK X.K a C s.heap := by
  obtain ⟨mA, O, r, _, _, _⟩ := ins_get I.hok h
  obtain ⟨od, hI, _⟩ := O.look
  exact ⟨_, _, I.kIn, hI, rfl⟩
theorem pe_callO {E : L2.St → XK} (F : FnOk X.prog X.w X.K X.mg X.base CX k f fd ps sp) (hm : CallM X.K C f) (hr : Room k X.A) (hb : Binds X.K fd ps []) (hx : ∀ σ, PassesAt CX X σ (E σ)) (hN : X.N[i]? = some x) (hv : Vis X.env.scope x) (ha : PA X (e :: es) t)
    (hdb : (x == ("__debug__" : Str)) = false := by decide) (hcd : (x == ("__classdict__" : Str)) = false := by decide)
    (he : starEach (e :: es) X.env = (false, eval e X.env) :: starEach es X.env := by rfl) (hpl : (backTo pos (starEach es X.env)).any (·.1) = false := by rfl) : PE X (.Call (.Name x p) (e :: es) [] pos) (tCallO i C sp E t) := by
  refine ⟨fun pins s σ H Q I h => ?_⟩
  obtain ⟨a, hs, ht⟩ := h
  refine wpAny_Call_Name_kw (thn ((pe_var (pos := p) hN hv hdb hcd).run pins s σ H (fun v H1 => v = .ref a ∧ H1 = H) I ⟨.ref a, hs, rfl, rfl⟩) fun u s1 ⟨v, H1, I1, r1, q1⟩ => ?_)
  obtain ⟨rfl, rfl⟩ := q1
  cases r1
  rw [he]
  refine callWith_ins (K := X.K) (C := C) (by show ((false || (backTo pos (starEach es X.env)).any (·.1)) || false) = false; rw [hpl]; rfl) (PySem.Calls.evalArgs_plain ?_)
  have := ha.run pos pins s1 σ _ _ I1 ht
  rw [he] at this
  refine thn this fun us s2 ⟨vs, H2, I2, r, hi, q⟩ => ?_
  obtain ⟨dx, fs, hi⟩ := hi
  refine ⟨ins_k I2 hi, ?_⟩
  obtain ⟨ox, od, X1, J, hd⟩ := ins_k I2 hi
  have r2 : Vals (V.ref a :: vs) (Value.ref a :: us) := .cons rfl r
  have hl : (Value.ref a :: us ++ []).length = ps.length := by rw [List.append_nil, ← r2.length]; exact F.len _ _ _ _ q
  refine wpAny_call (PySem.W.kco_code X1 J hd hm.at_ hm.isF hm.fn ?_)
  refine codeAny_mono (F.run X.A X.stack s2 H2 ⟨Value.ref a :: us, []⟩ (Value.ref a :: us) (V.ref a :: vs) Q (E σ) hr I2.env0 (by have := hb s2 (Value.ref a :: us) I2.kIn hl; rw [List.append_nil] at this; exact this) r2 q) fun r s' hq => ?_
  cases r with
  | error e => exact hx σ pins H2 s2 e s' I2 hq
  | ok fl =>
    cases fl with
    | ret u => exact I2.after hq
    | next => exact False.elim hq
    | brk => exact False.elim hq
    | cont => exact False.elim hq
theorem pe_callOk {E : XK} (F : FnOk X.prog X.w X.K X.mg X.base CX k f fd ps sp) (hm : CallM X.K C f) (hr : Room k X.A) (hb : KBn X.K fd ps 1 ks g gV) (hx : Passes CX X E) (hN : X.N[i]? = some x) (hv : Vis X.env.scope x) (hkw : PK X kws tk)
    (hdb : (x == ("__debug__" : Str)) = false := by decide) (hcd : (x == ("__classdict__" : Str)) = false := by decide)
    (hall : (backToKw pos (keywordEach kws X.env)).all (·.1.isSome) = true := by rfl) (hks : (backToKw pos (keywordEach kws X.env)).filterMap (·.1) = ks := by rfl)
    (hpl : ((backTo pos (starEach [] X.env)).any (·.1) || (backToKw pos (keywordEach kws X.env)).any (·.1.isNone)) = false := by rfl) : PE X (.Call (.Name x p) [] kws pos) (tCallOk i C ks.length sp gV E tk) := by
  refine ⟨fun pins s σ H Q I h => ?_⟩
  obtain ⟨a, hs, ht⟩ := h
  refine wpAny_Call_Name_kw (thn ((pe_var (pos := p) hN hv hdb hcd).run pins s σ H (fun v H1 => v = .ref a ∧ H1 = H) I ⟨.ref a, hs, rfl, rfl⟩) fun u s1 ⟨v, H1, I1, r1, q1⟩ => ?_)
  obtain ⟨rfl, rfl⟩ := q1
  cases r1
  refine callWith_ins (K := X.K) (C := C) hpl (evalArgs_kw2_nil hall ?_)
  refine thn (hkw.run pos pins s1 σ _ _ I1 ht) fun ws s2 ⟨zs, H2, I2, rz, hi, l2, q⟩ => ?_
  obtain ⟨dx, fs, hi⟩ := hi
  rw [hks]
  refine ⟨ins_k I2 hi, ?_⟩
  obtain ⟨ox, od, X1, J, hd⟩ := ins_k I2 hi
  have r2 := hb.rel (vs := [V.ref a]) (us := [Value.ref a]) (.cons rfl .nil) rz
  show wpAny _ _ (call (.ref a) [] (ks.zip ws)) _ _ _
  refine wpAny_call (PySem.W.kco_code X1 J hd hm.at_ hm.isF hm.fn ?_)
  refine codeAny_mono (F.run X.A X.stack s2 H2 ⟨[.ref a], ks.zip ws⟩ (g [.ref a] ws) (gV [.ref a] zs) Q E hr I2.env0 (hb.to s2 [.ref a] ws I2.kIn rfl (rz.length.symm.trans l2)) r2 q) fun r s' hq => ?_
  cases r with
  | error e => exact hx pins σ H2 s2 e s' I2 hq
  | ok fl =>
    cases fl with
    | ret u => exact I2.after hq
    | next => exact False.elim hq
    | brk => exact False.elim hq
    | cont => exact False.elim hq
end
end Lm

namespace Lm
open PySem L2 LamX PySem.Spec PyProof.Rows
/-! ### a lambda handed to a def that handles its errors: what is wished of an error may speak of the def's own slots -/
section
variable {X : Cx} {pins : List (Addr × Obj)} {σ : L2.St} {H : Hp} {s : Shared}
theorem pe_actS {CXg : CXT} {Eg : XK} {Ng : List Str} {qg : Str} {sg : Scope} {g f c' : Addr} {cdg pm ctv : Value} {params : Arguments} {body : Expr} {scope : Scope} {k i : Nat} {a : Str} {pn : List (Addr × Obj)} {xe : Value → Shared → Prop} {W : WX} {tb : XK → TE} {p1 p2 : Pos}
    (I : Inv X pins σ H s) (L : LamS X.env.scope scope) (hf : s.heap.get? f = some (PySem.W.kla_obj "<lambda>" (X.env.qual ++ "<lambda>") params body scope (cloFrom X.env.cells scope.names []) pm c' ctv)) (hfn : H f = none) (hfr : f ∉ frs X.stack)
    (hbind : bindArgs (PySem.W.kla_fn "<lambda>" (X.env.qual ++ "<lambda>") params body scope (cloFrom X.env.cells scope.names []) pm (.ref c') ctv) ⟨[], []⟩ = pure [])
    (tk : Takes ((cxOf CXg X.prog X.w X.K X.mg X.base Ng qg sg g cdg X.A X.stack s H Eg).tr pn xe) W) (hr : Room (k + 1) (X.A.deeper (envOfC qg sg s.heap.objs.size g cdg)))
    (hbody : ∀ (E : XK) (A : Around) (outer : List Env) (s : Shared) (H : Hp), Room k (A.deeper (lamEnv X scope s.heap.objs.size f c')) → PE (lamCx X A outer s H E scope f c') body (tb E))
    (hN : Ng[i]? = some a) (hv : Vis sg a) (hd : (a == ("__debug__" : Str)) = false := by decide) (hcd : (a == ("__classdict__" : Str)) = false := by decide) :
    PE ((cxOf CXg X.prog X.w X.K X.mg X.base Ng qg sg g cdg X.A X.stack s H Eg).tr pn xe) (.Call (.Name a p1) [] [] p2)
      (fun σZ HZ Q => σZ[i]? = some (some (.ref f)) ∧ HZ c' = some (CodeO c' (X.env.qual ++ "<lambda>")) ∧ tb (WE W σZ) σ HZ Q) := by
  refine ⟨fun pinsZ sZ σZ HZ Q IZ h => ?_⟩
  obtain ⟨hs, hc, ht⟩ := h
  refine wpAny_Call_Name_kw (thn ((pe_var (pos := p1) (i := i) hN hv hd hcd).run pinsZ sZ σZ HZ (fun v H1 => v = .ref f ∧ H1 = HZ) IZ ⟨.ref f, hs, rfl, rfl⟩) fun u s1 ⟨v, H1, I1, r1, q1⟩ => ?_)
  obtain ⟨ev, eH⟩ := q1
  subst ev
  rw [eH] at I1
  obtain rfl : u = Value.ref f := r1
  have of1 := I1.base.keep f _ hf hfn hfr (fun z => nomatch (show f ∈ ([] : List Addr) from z))
  refine PySem.W.callWith_F0 ⟨_, _, _, _, of1⟩ ?_
  have un : Un (frs X.stack) [] H HZ s.heap s1.heap := I1.base
  obtain ⟨⟨oc, vs, t, hoc, hdc, hvc⟩, _, _⟩ := I1.hok c' _ hc
  have rc : codeAny (model X.prog X.w) (X.A.deeper (envOfC qg sg s.heap.objs.size g cdg)) (.call (.ref f) ⟨[], []⟩) (CR (L2.CX X.prog X.w) (envOfC qg sg s.heap.objs.size g cdg :: X.stack) X.prog X.w HZ s1 Q (WE W σZ)) s1 := by
    refine PySem.W.kla_callFunE hr.depth of1 rfl L.co L.gen rfl ⟨c', oc, vs, t, rfl, hoc, hdc, hvc⟩ ?_
    rw [hbind]
    refine wpAny_pure (wpAny_newFunctionEnv (fun y hy => (L.own y hy).2) (fun y hy => absurd hy (by simp)) (fun h₁ hns hsb => ⟨I1.nolimit.fresh _ hsb, ?_⟩) L.kind)
    show codeAny _ _ (.expr body (lamEnv X scope s1.heap.objs.size f c')) _ _
    have kp : ∀ b o, s1.heap.get? b = some o → h₁.get? b = some o := fun b o e => hsb.extBut b o (Nat.ne_of_lt (Heap.lt_size e)) (Heap.get?_push_of_some _ e)
    have J : Inv (lamCx X (X.A.deeper (envOfC qg sg s.heap.objs.size g cdg)) (envOfC qg sg s.heap.objs.size g cdg :: X.stack) s1 HZ (WE W σZ) scope f c') [] σ HZ { s1 with heap := h₁, toks := s1.toks + ([] : List (Str × Value)).length } :=
      lam_start2 I L I1.env0 hr.hd un hns kp
    refine PySem.W.kla_codeExpr (wpAny_mono ((hbody _ _ _ s1 HZ (hr.deeper _)).run [] _ _ HZ Q J ht) (fun v s' hq => ?_) fun e s' hq => hq)
    obtain ⟨w', H', J', rv, q⟩ := hq
    exact ⟨w', H', J'.os, J'.bare, J'.base, J'.hok, rv, q⟩
  have hx : PassesAt (L2.CX X.prog X.w) ((cxOf CXg X.prog X.w X.K X.mg X.base Ng qg sg g cdg X.A X.stack s H Eg).tr pn xe) σZ (WE W σZ) := passAt tk σZ
  refine wpAny_call (codeAny_mono rc fun r s' hq => ?_)
  cases r with
  | error e => exact hx pinsZ HZ s1 e s' I1 hq
  | ok fl =>
    cases fl with
    | ret u => exact I1.after hq
    | next => exact False.elim hq
    | brk => exact False.elim hq
    | cont => exact False.elim hq
/-- the def that calls what it got, and handles its errors with its own slots at hand -/
def GivesToS (X : Cx) (Ng : List Str) (x : Str) (sg : Scope) (g : Addr) (cdg : Value) (bg : List Stmt) (a : Str) (q : Str) (k : Nat) (TT : (XK → Hp → VK → Prop) → Hp → VK → Prop) : Prop :=
  ∀ (f c' : Addr) (s : Shared) (H : Hp) (Q : VK) (tl : XK → Hp → VK → Prop), Room (k + 1) (X.A.deeper (envOfC x sg s.heap.objs.size g cdg)) →
    (∀ (W : WX) (pn : List (Addr × Obj)) (xe : Value → Shared → Prop) (p1 p2 : Pos), Takes ((cxOf C8.CX0 X.prog X.w X.K X.mg X.base Ng x sg g cdg X.A X.stack s H C8.E0).tr pn xe) W →
      PE ((cxOf C8.CX0 X.prog X.w X.K X.mg X.base Ng x sg g cdg X.A X.stack s H C8.E0).tr pn xe) (.Call (.Name a p1) [] [] p2) (fun σZ HZ Q => σZ[0]? = some (some (.ref f)) ∧ HZ c' = some (CodeO c' q) ∧ tl (WE W σZ) HZ Q)) →
    H c' = some (CodeO c' q) → TT tl H Q →
    ∃ t, PSs (cxOf C8.CX0 X.prog X.w X.K X.mg X.base Ng x sg g cdg X.A X.stack s H C8.E0).nox bg t ∧ t { nx := fun _ H' => Q .non H', rt := Q } (L2.start Ng [.ref f]) H
theorem pe_lamcallS {T : List (Addr × Str)} {TT : (XK → Hp → VK → Prop) → Hp → VK → Prop} {x a : Str} {g c P : Addr} {k : Nat} {pg : Arguments} {bg : List Stmt} {sg : Scope} {dV kV doc pm cdv ct oc : Value} {an od : Option Addr} {osl : Array (Option Value)} {Ng : List Str}
    {params : Arguments} {body : Expr} {scope : Scope} {t : XK → TE} {p lpos pos : Pos} (hg : Gl X x) (hm : X.mg x = some (.ref g)) (hk : PySem.W.keepIn X.K (.ref g) = true)
    (lk : X.K.lookup g = some ⟨oc, od, .func (PySem.W.fnOf x x pg bg sg dV kV doc pm an cdv ct), osl⟩) (hcg : PySem.W.codeIn X.K cdv x = true) (hb : L2.Binds X.K (PySem.W.fnOf x x pg bg sg dV kV doc pm an cdv ct) [a] []) (Sg : FnScope Ng [a] sg) (hNg : Ng[0]? = some a) (hva : Vis sg a)
    (hG : GivesToS X Ng x sg g cdv bg a (X.env.qual ++ "<lambda>") k TT)
    (TB : TabB X.base X.mg c P) (hcode : X.env.code = .ref c) (hmT : (P, X.env.qual ++ "<lambda>") ∈ T) (hu : ∀ p ∈ T, p.1 = P → p.2 = X.env.qual ++ "<lambda>") (hr : Room (k + 2) X.A) (L : LamS X.env.scope scope) (hdef : defaultsOf params X.env = ([], []))
    (hbind : ∀ (q : Str) (cl : List (Str × Addr)) (pm cv ctv : Value), bindArgs (PySem.W.kla_fn "<lambda>" q params body scope cl pm cv ctv) ⟨[], []⟩ = pure [])
    (hbody : ∀ (A : Around) (outer : List Env) (s : Shared) (H : Hp) (E : XK) (f c' : Addr), Room k (A.deeper (lamEnv X scope s.heap.objs.size f c')) → PE (lamCx X A outer s H E scope f c') body (t E))
    (hdb : (x == ("__debug__" : Str)) = false := by decide) (hd : (a == ("__debug__" : Str)) = false := by decide) (hcd : (a == ("__classdict__" : Str)) = false := by decide) :
    PE X (.Call (.Name x p) [.Lambda params body scope lpos] [] pos) (tLam T TT t) := by
  refine ⟨fun pins s σ H Q I h => ?_⟩
  obtain ⟨hT, h⟩ := h
  refine wpAny_Call_Name_kw (ld_glob I hg hm ?_ hdb)
  refine PySem.W.callWith_K (h₀ := X.base) I.ok.mod.kin hk ?_ (by rfl) (by rfl)
  show wpAny _ _ (spliced ((false, eval (.Lambda params body scope lpos) X.env) :: backTo pos (starEach [] X.env))) _ _ s
  refine Calls.spliced_cons (lam_make2 I TB hcode hmT hu hT hdef (L.has I.ok) fun f c' pm' ctv H1 s' I1 eN T1 hf hfn hfr hco => ?_)
  refine Calls.spliced_nil ⟨I1.kIn, ?_⟩
  have rc : codeAny (model X.prog X.w) X.A (.call (.ref g) ⟨[.ref f], []⟩) (CR C8.CX0 X.stack X.prog X.w H1 s' Q C8.E0) s' := by
    refine run_ofS (N := Ng) (ps := [a]) (us := [.ref f]) (vs := [.ref f]) lk hcg Sg hr I1.env0 (hb s' [.ref f] I1.kIn rfl) (.cons rfl .nil) rfl fun hr' => ?_
    obtain ⟨t', ht', hq'⟩ := hG f c' s' H1 Q (fun E H' Q' => t E σ H' Q') hr' (fun W pn xe p1 p2 tk => pe_actS (i := 0) I1 L hf hfn hfr (hbind _ _ _ _ _) tk hr' (fun E A outer s H hr2 => hbody A outer s H E f c' hr2) hNg hva hd hcd) hco (h H1 eN T1)
    exact ⟨t', ht'.nox, hq'⟩
  refine wpAny_call (codeAny_mono rc fun r s2 hq => ?_)
  cases r with
  | error e => exact (show False from hq).elim
  | ok fl =>
    cases fl with
    | ret u => exact I1.after hq
    | next => exact False.elim hq
    | brk => exact False.elim hq
    | cont => exact False.elim hq
end
end Lm

namespace Lm
open PySem L2 LamX PySem.Spec PyProof.Rows
section
variable {X : Cx} {A : Around} {outer : List Env} {s : Shared} {H : Hp} {E : XK} {scope : Scope} {f c' : Addr} {k : Nat} {C g : Addr} {fd : FuncData} {ps : List Str} {sp : Sp} {m : Str}
/-- in a lambda's body: what a call raises is the lambda's -/
theorem lam_passes : Passes (L2.CX X.prog X.w) (lamCx X A outer s H E scope f c') E := passes_call (takes_of rfl rfl rfl rfl) fun _ _ _ _ h => h
theorem MetOkX.binL {op : Operator} (D : MetOkX X.prog X.w X.K X.mg X.base k C (PySem.dunder op.info.2) g fd ps sp) (hc : PySem.W.selfFirst X.K C = true) (hr : Room k (lamCx X A outer s H E scope f c').A) : OpR (lamCx X A outer s H E scope f c') (binaryOp op) (rBinOwn C sp E) :=
  op_binOwn (X := lamCx X A outer s H E scope f c') D.ok hc D.mt.at_ D.mt.fn D.bd hr lam_passes
theorem MetOkX.leL (D : MetOkX X.prog X.w X.K X.mg X.base k C "__le__" g fd ps sp) (hr : Room k (lamCx X A outer s H E scope f c').A) : OpR (lamCx X A outer s H E scope f c') (compareOp .LtE) (rBinOwn C sp E) :=
  op_cmpOwn (X := lamCx X A outer s H E scope f c') (fun _ _ => rfl) D.ok D.mt.at_ D.mt.fn D.bd hr lam_passes
theorem MetOkX.ltL (D : MetOkX X.prog X.w X.K X.mg X.base k C "__lt__" g fd ps sp) (hr : Room k (lamCx X A outer s H E scope f c').A) : OpR (lamCx X A outer s H E scope f c') (compareOp .Lt) (rBinOwn C sp E) :=
  op_cmpOwn (X := lamCx X A outer s H E scope f c') (fun _ _ => rfl) D.ok D.mt.at_ D.mt.fn D.bd hr lam_passes
end
/-- a def whose code object is known: what it makes (lambdas) is noted in that object's table -/
theorem okC {P : Program} {w : World} {K : PySem.W.Frag} {mg : Str → Option Value} {base : Heap} {x qual : Str} {st : Stmt} {f c : Addr} {fd : FuncData} {N ps : List Str} {k : Nat} {sp : Sp} (F : L2.Fun K x qual st f fd) (hc : fd.code = Value.ref c) (S : FnScope N ps (defScope st)) (len : ∀ vs H Q E, sp vs H Q E → vs.length = ps.length)
    (hbody : ∀ (A : Around) (outer : List Env) (s : Shared) (H : Hp) (vs : List V) (Q : VK) (E : XK), Room k (A.deeper (envOfC qual (defScope st) s.heap.objs.size f (.ref c))) → sp vs H Q E →
      ∃ t, PSs (cxOf CX0 P w K mg base N qual (defScope st) f (.ref c) A outer s H E).nox (defBody st) t ∧ t { nx := fun _ H' => Q .non H', rt := Q } (L2.start N vs) H) : FnOk P w K mg base CX0 (k + 1) f fd ps sp := by
  obtain ⟨oc, od, kV, doc, pm, an, cdv, ct, osl, rfl, lk, hcd⟩ := F.ex
  have e : cdv = .ref c := hc
  subst e
  refine fn_of lk hcd S len fun A outer s H vs Q E hr hsp => ?_
  obtain ⟨t, h, q⟩ := hbody A outer s H vs Q E hr hsp
  exact ⟨t, h.nox, q⟩
end Lm

namespace Lm
open PySem L2 PySem.Spec PyProof.Rows
/-! ### several except clauses, each with a name or without -/
abbrev Clause := Value × Option Nat × (Addr → Value → Option Addr → TS)
/-- behind a clause its name is gone -/
def offEnds : Option Nat → Ends → Ends
  | none, D => D
  | some i, D => ⟨fun τ G => D.nx (τ.set i none) G, D.rt, fun τ G => D.bk (τ.set i none) G, fun τ G => D.ct (τ.set i none) G⟩
/-- in it the name holds the error -/
def onSt : Option Nat → Addr → L2.St → L2.St
  | none, _, τ => τ
  | some i, a, τ => τ.set i (some (.ref a))
def wClauses (K : PySem.W.Frag) (Wo : WX) (D : Ends) : List Clause → WX
  | [] => Wo
  | (c, o, ts) :: r => fun cls d τ G => ∃ b, PySem.W.exmOne K cls c = some b ∧ (b = true → ∀ a, G a = none → ts a cls d (offEnds o D) (onSt o a τ) G) ∧ (b = false → wClauses K Wo D r cls d τ G)
/-- a clause's name, its slot -/
def NmOk (X : Cx) : Option Str → Option Nat → Prop
  | none, none => True
  | some n, some i => X.N[i]? = some n ∧ X.env.kindOf n = some .local
  | _, _ => False
inductive Clauses (X : Cx) : List ExceptHandler → List Clause → Prop
  | nil : Clauses X [] []
  | cons {x : Str} {n : Option Str} {o : Option Nat} {c : Value} {ts : Addr → Value → Option Addr → TS} {st : Stmt} {sts : List Stmt} {p1 p2 : Pos} {hs : List ExceptHandler} {l : List Clause} (hx : Names X x c) (hn : NmOk X n o)
      (hb : ∀ (a : Addr) (ob : Obj) (cls : Value) (d : Option Addr) (pn : List (Addr × Obj)), Zc cls d ob → (∃ vs, ob.data = .fields vs) → PSs (X.suite a ((a, ob) :: pn)) (st :: sts) (ts a cls d)) (r : Clauses X hs l) :
      Clauses X (.ExceptHandler (some (.Name x p1)) n (st :: sts) p2 :: hs) ((c, o, ts) :: l)
section
variable {X : Cx} {blk : List Stmt} {h1 : ExceptHandler} {hr : List ExceptHandler} {cl : List Clause} {p : Pos} {tb : WX → TS} {Wo : WX}
theorem ps_clauses (e1 : X.stack = X.env :: X.outer) (e2 : X.env.frame = some X.env.locals) (nd : X.N.Nodup) (tk : Takes X Wo)
    (hbl : ∀ (W : WX) (pn : List (Addr × Obj)) (xe : Value → Shared → Prop), Takes (X.tr pn xe) W → PassesOwn (model X.prog X.w) X.A X.env xe → PSs (X.tr pn xe) blk (tb W)) (hcl : Clauses X (h1 :: hr) cl) :
    PS X (.Try blk (h1 :: hr) [] [] p) (fun D τ G => tb (wClauses X.K Wo D cl) D τ G) := by
  refine ⟨fun pins s τ G D J wish => ?_⟩
  have wf := J.ok
  have efr : X.A.frames = some (X.env :: X.outer) := wf.frames.trans (congrArg some e1)
  have go := (hbl (wClauses X.K Wo D cl) (X.pn ++ pins) (fun e z => wpAny (model X.prog X.w) X.A (noteFrame e X.env) (fun _ z2 => wpAny (model X.prog X.w) X.A (setFlight e none) (fun _ z3 =>
    wpAny (model X.prog X.w) X.A (handleBy e X.env (h1 :: hr)) (SP X pins D) X.xe z3) X.xe z2) X.xe z) ?caught PassesOwn.looking).run [] s τ G D (J.toTry _) wish
  case caught =>
    intro u z ht
    obtain ⟨er, fr, z0, pz, τ1, G1, cls, d, rfl, Jt, notBare, upw, hsky, fresh, eos, eag, wsh⟩ := ht
    have Ji := Jt.ofTry wf
    show wpAny (model X.prog X.w) X.A (noteFrame (.ref er) X.env) _ _ _
    refine Sky.land Zc.steady efr e2 (e1 ▸ hsky) fun g3 land3 up3 => ?_
    have J3 : Inv X pins τ1 G1 { z with heap := g3 } := Ji.landed notBare land3.1 (upw.trans up3) eos eag
    obtain ⟨ob3, fs3, get3, zc3, dat3⟩ := land3.there
    have off : er ∉ frs (X.env :: X.outer) := fun hm => by
      obtain ⟨_, ob', get', nofs⟩ := land3.2.2.1.mem hm
      rw [get3] at get'
      cases get'
      exact nofs _ dat3
    have offL : er ≠ X.env.locals := fun eq => off (List.mem_filterMap.mpr ⟨X.env, List.mem_cons_self, eq ▸ e2⟩)
    have offF : er ∉ X.fs := fun hm => by
      obtain ⟨en, hen, q⟩ := List.mem_filterMap.mp hm
      exact off (List.mem_filterMap.mpr ⟨en, List.mem_cons_of_mem _ hen, q⟩)
    have Sx := J3.suite get3 dat3 fresh offL offF
    have each : ∀ {hs : List ExceptHandler} {l : List Clause}, Clauses X hs l → wClauses X.K Wo D l cls d τ1 G1 → wpAny (model X.prog X.w) X.A (handleBy (.ref er) X.env hs) (SP X pins D) X.xe { z with heap := g3 } := by
      intro hs l hl
      induction hl with
      | nil =>
        intro out
        refine wpAny_handleBy_nil ?_
        obtain ⟨_, _, _, obx, vsx, Tx, _, _, getx, _, datx, slot, _⟩ := id land3
        unfold PySem.passOn
        refine wpAny_bind (wpAny_field getx datx slot ?_)
        rw [if_neg (show ¬ ((Value.ref Tx == Value.none) = true) by simp)]
        have leave : wpAny (model X.prog X.w) X.A (setFlight (.ref er) X.env.frame) (fun _ z4 => wpAny (model X.prog X.w) X.A (throw (.ref er) : Sem Flow) (SP X pins D) X.xe z4) X.xe { z with heap := g3 } := by
          rw [e2]
          exact HandSPX.setFlight_upZ land3 fun g4 hot4 up4 => wpAny_throw (tk _ _ ⟨er, fr, z0, pins, τ1, G1, cls, d, rfl, Ji, notBare, (upw.trans up3).trans up4, Or.inr (Or.inr (by rw [e1]; exact hot4)), fresh, eos, eag, out⟩)
        first
          | exact wpAny_bind leave
          | exact wpAny_bind (wpAny_pure (wpAny_bind leave))
      | @cons x n o c ts st sts q1 q2 hs2 l2 hx hn hbd rest ih =>
        intro out
        obtain ⟨b, fits, yes, no⟩ := out
        refine wpAny_handleBy_cons (codeAny_handlers_test ?_) (fun q => by cases q)
        have look : PySem.W.Looks (model X.prog X.w) g3 (typeOf (.ref er)) cls := fun A Q E s k q => wpAny_typeOf_ref (k _ _ get3) (zc3.1.symm ▸ q)
        have match_ := PySem.W.exm_one (M := model X.prog X.w) J3.kIn look fits
        have named : ∀ {Q E : Value → Shared → Prop}, Q c { z with heap := g3 } → wpAny (model X.prog X.w) (X.A.mark (some (.ref er))) (eval (.Name x q1) X.env) Q E { z with heap := g3 } := fun {Q E} q => by
          obtain ⟨k1, k2, m1 | ⟨m1, m2, m3⟩⟩ := hx
          · exact ld_glob (X := X.suite er ((er, ob3) :: (X.pn ++ pins))) Sx k1 m1 q k2
          · exact ld_blt (X := X.suite er ((er, ob3) :: (X.pn ++ pins))) Sx k1 m1 m2 q m3 k2
        refine named (match_.here ?_)
        cases b with
        | false =>
          show wpAny _ X.A (handleBy (.ref er) X.env hs2) _ _ _
          exact ih (no rfl)
        | true =>
          match n, o, hn, yes rfl er fresh with
          | none, none, _, w1 =>
            refine codeAny_handlers_suite (HandSPX.lands_againZ land3 fun g4 land4 up4 => ?_)
            have J4 : Inv X pins τ1 G1 { z with heap := g4 } := Ji.landed notBare land4.1 ((upw.trans up3).trans up4) eos eag
            obtain ⟨ob4, fs4, get4, zc4, dat4⟩ := land4.there
            have S4 := J4.suite get4 dat4 fresh offL offF
            refine wpAny_mono ((hbd er ob4 cls d (X.pn ++ pins) zc4 ⟨_, dat4⟩).run [] _ _ G1 _ S4 w1) (fun f z6 fin => ?_) (fun _ _ bad => bad.elim)
            match f, fin with
            | .next, ⟨_, _, S6, q⟩ => exact ⟨_, _, S6.unsuite wf, q⟩
            | .brk, ⟨_, _, S6, q⟩ => exact ⟨_, _, S6.unsuite wf, q⟩
            | .cont, ⟨_, _, S6, q⟩ => exact ⟨_, _, S6.unsuite wf, q⟩
            | .ret u, ⟨_, _, _, S6, r6, q⟩ => exact ⟨_, _, _, S6.unsuite wf, r6, q⟩
          | some nm, some i, ⟨ni, nl⟩, w1 =>
            refine codeAny_handlers_suite_as (HandSPX.lands_againZ land3 fun g4 land4 up4 => ?_)
            have J4 : Inv X pins τ1 G1 { z with heap := g4 } := Ji.landed notBare land4.1 ((upw.trans up3).trans up4) eos eag
            obtain ⟨ob4, fs4, get4, zc4, dat4⟩ := land4.there
            have S4 := J4.suite get4 dat4 fresh offL offF
            refine store_ok (X := X.suite er ((er, ob4) :: (X.pn ++ pins))) (v := .ref er) S4 nd ni (.inl nl) rfl (fun z5 S5 => ?_) (.inr nl)
            refine wpAny_mono ((hbd er ob4 cls d (X.pn ++ pins) zc4 ⟨_, dat4⟩).run [] z5 _ G1 _ S5 w1) (fun f z6 fin => ?_) (fun _ _ bad => bad.elim)
            have drop : ∀ {τ6 : L2.St} {G6 : Hp} {Q : Shared → Prop}, Inv (X.suite er ((er, ob4) :: (X.pn ++ pins))) [] τ6 G6 z6 → (∀ z7, Inv X pins (τ6.set i none) G6 z7 → Q z7) →
                wpAny (model X.prog X.w) X.A (do bindName X.env nm .none; unbindBehindTheSuite X.env nm q2) (fun _ z7 => Q z7) X.xe z6 := fun S6 hq => gone_ok (S6.unsuite wf) nd ni nl hq
            match f, fin with
            | .next, ⟨_, _, S6, q⟩ => exact drop S6 fun _ J7 => ⟨_, _, J7, q⟩
            | .brk, ⟨_, _, S6, q⟩ => exact drop S6 fun _ J7 => ⟨_, _, J7, q⟩
            | .cont, ⟨_, _, S6, q⟩ => exact drop S6 fun _ J7 => ⟨_, _, J7, q⟩
            | .ret u, ⟨_, _, _, S6, r6, q⟩ => exact drop S6 fun _ J7 => ⟨_, _, _, J7, r6, q⟩
    exact each hcl wsh
  refine wpAny_Try_except (wpAny_mono go (fun f z fin => ?_) fun _ _ q => q)
  match f, fin with
  | .next, ⟨_, _, J1, q⟩ => exact wpAny_execs_nil ⟨_, _, J1.ofTry wf, q⟩
  | .brk, ⟨_, _, J1, q⟩ => exact ⟨_, _, J1.ofTry wf, q⟩
  | .cont, ⟨_, _, J1, q⟩ => exact ⟨_, _, J1.ofTry wf, q⟩
  | .ret u, ⟨_, _, _, J1, r1, q⟩ => exact ⟨_, _, _, J1.ofTry wf, r1, q⟩
end
end Lm

namespace Lm
open PySem L2 LamX PySem.Spec PyProof.Rows
theorem exm_at {K : PySem.W.Frag} {S C : Addr} {b : Bool} (h1 : PySem.W.subIn K (.ref C) (.type "BaseException") = some true) (h2 : PySem.W.isClsIn K C = true) (h3 : PySem.W.typeIn K (.ref C) = some (.type "type")) (h4 : PySem.W.subIn K (.ref S) (.ref C) = some b) :
    PySem.W.exmOne K (.ref S) (.ref C) = some b := by
  have e1 : (PySem.W.subIn K (.ref C) (.type "BaseException") == some true) = true := by rw [h1] <;> rfl
  have e2 : ((PySem.W.clsIn K C).isSome && PySem.W.typeIn K (.ref C) == some (.type "type")) = true := by
    have h2' : (PySem.W.clsIn K C).isSome = true := h2
    rw [h2', h3] <;> rfl
  show (if (PySem.W.subIn K (.ref C) (.type "BaseException") == some true) = true then (if ((PySem.W.clsIn K C).isSome && PySem.W.typeIn K (.ref C) == some (.type "type")) = true then PySem.W.subIn K (.ref S) (.ref C) else none) else none) = some b
  rw [if_pos e1, if_pos e2]
  exact h4
/-- an error with one field, as it is raised -/
def ErrAt (C : Addr) (fn : Str) (cls : Value) (d : Option Addr) (H : Hp) (v : V) : Prop := cls = .ref C ∧ ∃ dd fs, d = some dd ∧ H dd = some (.xd fs) ∧ fs.lookup fn = some v
/-- what is made of an error by a clause with a field, and by one without -/
def ClF (C : Addr) (fn tag : Str) (Q : VK) : XK := fun cls d H => ∃ v, ErrAt C fn cls d H v ∧ ∀ p, H p = none → Q (.ref p) (upd H p (.tup [.str tag, v]))
def ClO (C : Addr) (tag : Str) (Q : VK) : XK := fun cls d H => cls = .ref C ∧ ∀ p, H p = none → Q (.ref p) (upd H p (.tup [.str tag]))
def Cl2 (A B : VK → XK) : VK → XK := fun Q cls d H => A Q cls d H ∨ B Q cls d H
/-- found = ("odd",); try: found = (tag, ask()) / except .. -/
def TTtr (Cl : VK → XK) (post : V → Hp → VK → Prop) : (XK → Hp → VK → Prop) → Hp → VK → Prop := fun tl H Q => ∀ p0, H p0 = none → ∀ (E : XK) (R : VK), (∀ cls d H', Cl Q cls d H' → E cls d H') → (∀ v H', post v H' Q → R v H') → tl E (upd H p0 (.tup [.str "odd"])) R
/-- (tag, v) is told -/
def pTold (tag : Str) : V → Hp → VK → Prop := fun v H Q => ∀ p, H p = none → Q (.ref p) (upd H p (.tup [.str tag, v]))
section
variable {X : Cx} {k : Nat} {f C : Addr} {fd : FuncData} {ps : List Str} {sp : Sp} {E : XK} {x m : Str} {p pos apos : Pos} {e o : Expr} {es : List Expr} {ta : TE} {t : TA}
theorem pe_mXc {pl : Sem Bool} (D : MetOkX X.prog X.w X.K X.mg X.base k C m f fd ps sp) (hr : Room k X.A) (hx : Passes (L2.CX X.prog X.w) X E) (he : PE X o ta) (ha : PA X (e :: es) t)
    (hst : starEach (e :: es) X.env = (false, eval e X.env) :: starEach es X.env := by rfl) (hpl : (backTo pos (starEach es X.env)).any (·.1) = false := by rfl)
    (ht : eval (.Call (.Attribute o m apos) (e :: es) [] pos) X.env = (do
      let ov ← eval o X.env
      standAt apos.atName
      let (f, first) ← holding [ov] (getMethod ov m pl)
      callWith pos f first (backTo pos (starEach (e :: es) X.env)) (backToKw pos (keywordEach [] X.env))) := by rfl) :
    PE X (.Call (.Attribute o m apos) (e :: es) [] pos) (tMeth C m sp [] E ta t) := pe_meth (pl := pl) he D.cl D.mt D.ok hr D.bd .nil hx ha hst hpl ht
end
section
variable {X : Cx} {A : Around} {outer : List Env} {s : Shared} {H : Hp} {E : XK} {scope : Scope} {f c' : Addr} {k : Nat} {C g : Addr} {fd : FuncData} {ps : List Str} {sp : Sp} {m x : Str} {p pos apos : Pos} {e o : Expr} {es : List Expr} {ta : TE} {t : TA}
theorem pe_mL {pl : Sem Bool} (D : MetOkX X.prog X.w X.K X.mg X.base k C m g fd ps sp) (hr : Room k (lamCx X A outer s H E scope f c').A) (he : PE (lamCx X A outer s H E scope f c') o ta) (ha : PA (lamCx X A outer s H E scope f c') (e :: es) t)
    (hst : starEach (e :: es) (lamCx X A outer s H E scope f c').env = (false, eval e (lamCx X A outer s H E scope f c').env) :: starEach es (lamCx X A outer s H E scope f c').env := by rfl) (hpl : (backTo pos (starEach es (lamCx X A outer s H E scope f c').env)).any (·.1) = false := by rfl)
    (ht : eval (.Call (.Attribute o m apos) (e :: es) [] pos) (lamCx X A outer s H E scope f c').env = (do
      let ov ← eval o (lamCx X A outer s H E scope f c').env
      standAt apos.atName
      let (f1, first) ← holding [ov] (getMethod ov m pl)
      callWith pos f1 first (backTo pos (starEach (e :: es) (lamCx X A outer s H E scope f c').env)) (backToKw pos (keywordEach [] (lamCx X A outer s H E scope f c').env))) := by rfl) :
    PE (lamCx X A outer s H E scope f c') (.Call (.Attribute o m apos) (e :: es) [] pos) (tMeth C m sp [] E ta t) :=
  pe_meth (X := lamCx X A outer s H E scope f c') (pl := pl) (CX := L2.CX X.prog X.w) (E := E) he D.cl D.mt D.ok hr D.bd .nil (lam_passes (X := X) (A := A) (outer := outer) (s := s) (H := H) (E := E) (scope := scope) (f := f) (c' := c')) ha hst hpl ht
theorem pe_dL (D : DefOkX X.prog X.w X.K X.mg X.base k x g fd ps sp) (hr : Room k (lamCx X A outer s H E scope f c').A) (ha : PA (lamCx X A outer s H E scope f c') (e :: es) t) (hg : Gl (lamCx X A outer s H E scope f c') x) (hdb : (x == ("__debug__" : Str)) = false := by decide)
    (he : starEach (e :: es) (lamCx X A outer s H E scope f c').env = (false, eval e (lamCx X A outer s H E scope f c').env) :: starEach es (lamCx X A outer s H E scope f c').env := by rfl) (hpl : (backTo pos (starEach es (lamCx X A outer s H E scope f c').env)).any (·.1) = false := by rfl) :
    PE (lamCx X A outer s H E scope f c') (.Call (.Name x p) (e :: es) [] pos) (tCall sp [] E t) :=
  pe_call (X := lamCx X A outer s H E scope f c') (CX := L2.CX X.prog X.w) (E := E) D.ok hr hg D.mg D.kp D.bd .nil (lam_passes (X := X) (A := A) (outer := outer) (s := s) (H := H) (E := E) (scope := scope) (f := f) (c' := c')) ha hdb he hpl
end
/-- what is asked raises the first clause's error -/
theorem go_trA {Cl : VK → XK} {post : V → Hp → VK → Prop} {Tl : List (Addr × Str)} {C : Addr} {fn tag : Str} {x : V} {σ : L2.St} {H : Hp} {Q : VK} {t : XK → TE} (T : Tabs Tl H) (hC : ∀ Q cls d H, ClF C fn tag Q cls d H → Cl Q cls d H)
    (h : ∀ H1, ExtN H H1 → ∀ (E : XK) (R : VK), (∀ H' d, (∀ b o, H1 b = some o → H' b = some o) → H' d = none → E (.ref C) (some d) (upd H' d (.xd [(fn, x)]))) → t E σ H1 R)
    (k : ∀ p H1, ExtN H H1 → Tabs Tl H1 → (∀ o, H p = some o → ∃ ps, o = .tbl ps) → H1 p = some (.tup [.str tag, x]) → Q (.ref p) H1) : tLam Tl (TTtr Cl post) t σ H Q := by
  refine ⟨T, fun H1 e1 T1 p0 np0 E R hE _ => ?_⟩
  have s0 : ∀ b o, H1 b = some o → upd H1 p0 (.tup [.str "odd"]) b = some o := fun b o e => by rw [upd_ne (ne_of_none e np0)]; exact e
  refine h _ (e1.trans (.of s0)) E R fun H' d s nd => hE _ _ _ (hC _ _ _ _ ⟨x, ⟨rfl, d, _, rfl, upd_same, by simp [List.lookup]⟩, fun p np => ?_⟩)
  have s1 : ∀ b o, H1 b = some o → upd (upd H' d (.xd [(fn, x)])) p (.tup [.str tag, x]) b = some o := fun b o e => by
    have e2 := s _ _ (s0 b o e)
    have e3 : upd H' d (.xd [(fn, x)]) b = some o := by rw [upd_ne (ne_of_none e2 nd)]; exact e2
    rw [upd_ne (ne_of_none e3 np)]; exact e3
  refine k p _ (e1.trans (.of s1)) (T1.ext s1) (fun o ho => Classical.byContradiction fun hc => ?_) upd_same
  have h1 := e1 _ _ ho fun ps z => hc ⟨ps, z⟩
  have e2 := s _ _ (s0 _ _ h1)
  have e3 : upd H' d (.xd [(fn, x)]) p = some o := by rw [upd_ne (ne_of_none e2 nd)]; exact e2
  rw [np] at e3
  cases e3
theorem free_back' {H H1 H' : Hp} {p : Addr} (e1 : ExtN H H1) (s : ∀ b o, H1 b = some o → H' b = some o) (np : H' p = none) : ∀ o, H p = some o → ∃ ps, o = .tbl ps := fun o ho => Classical.byContradiction fun hc => by
  have h1 := s _ _ (e1 _ _ ho fun ps z => hc ⟨ps, z⟩)
  rw [np] at h1
  cases h1
/-- … an error without fields -/
theorem go_trO {Cl : VK → XK} {post : V → Hp → VK → Prop} {Tl : List (Addr × Str)} {C : Addr} {tag : Str} {σ : L2.St} {H : Hp} {Q : VK} {t : XK → TE} (T : Tabs Tl H) (hC : ∀ Q cls d H, ClO C tag Q cls d H → Cl Q cls d H)
    (h : ∀ H1, ExtN H H1 → ∀ (E : XK) (R : VK), (∀ H', (∀ b o, H1 b = some o → H' b = some o) → E (.ref C) none H') → t E σ H1 R)
    (k : ∀ p H1, ExtN H H1 → Tabs Tl H1 → (∀ o, H p = some o → ∃ ps, o = .tbl ps) → H1 p = some (.tup [.str tag]) → Q (.ref p) H1) : tLam Tl (TTtr Cl post) t σ H Q := by
  refine ⟨T, fun H1 e1 T1 p0 np0 E R hE _ => ?_⟩
  have s0 : ∀ b o, H1 b = some o → upd H1 p0 (.tup [.str "odd"]) b = some o := fun b o e => by rw [upd_ne (ne_of_none e np0)]; exact e
  refine h _ (e1.trans (.of s0)) E R fun H' s => hE _ _ _ (hC _ _ _ _ ⟨rfl, fun p np => ?_⟩)
  have s1 : ∀ b o, H1 b = some o → upd H' p (.tup [.str tag]) b = some o := fun b o e => by
    have e2 := s _ _ (s0 b o e)
    rw [upd_ne (ne_of_none e2 np)]; exact e2
  exact k p _ (e1.trans (.of s1)) (T1.ext s1) (free_back' e1 (fun b o e => s _ _ (s0 b o e)) np) upd_same
/-- … it tells something -/
theorem go_trV {Cl : VK → XK} {tag : Str} {Tl : List (Addr × Str)} {σ : L2.St} {H : Hp} {Q : VK} {t : XK → TE} (T : Tabs Tl H)
    (h : ∀ H1, ExtN H H1 → Tabs Tl H1 → ∀ (E : XK) (R : VK), (∀ v H', (∀ b o, H1 b = some o → H' b = some o) → (∀ p, H' p = none → Q (.ref p) (upd H' p (.tup [.str tag, v]))) → R v H') → t E σ H1 R) : tLam Tl (TTtr Cl (pTold tag)) t σ H Q := by
  refine ⟨T, fun H1 e1 T1 p0 np0 E R _ hR => ?_⟩
  have s0 : ∀ b o, H1 b = some o → upd H1 p0 (.tup [.str "odd"]) b = some o := fun b o e => by rw [upd_ne (ne_of_none e np0)]; exact e
  exact h _ (e1.trans (.of s0)) (T1.ext s0) E R fun v H' s q => hR v H' q
end Lm

namespace Lm
open PySem L2 LamX PySem.Spec PyProof.Rows
/-- a class whose __init__ may raise -/
structure ClsOkX (P : Program) (w : World) (K : PySem.W.Frag) (mg : Str → Option Value) (base : Heap) (k : Nat) (x : Str) (C f : Addr) (fd : FuncData) (ps : List Str) (sp : Sp) : Prop where
  ok : FnOk P w K mg base (L2.CX P w) k f fd ps sp
  bd : Binds K fd ps []
  mkr : Mk K C f
  cl : Cls K C
  mg : mg x = some (.ref C)
section
variable {X : Cx} {A : Around} {outer : List Env} {s : Shared} {H : Hp} {E : XK} {scope : Scope} {f c' : Addr} {k : Nat} {C g : Addr} {fd : FuncData} {ps : List Str} {sp : Sp} {x : Str} {p pos : Pos} {e : Expr} {es : List Expr} {t : TA}
theorem MetOkX.gtL (D : MetOkX X.prog X.w X.K X.mg X.base k C "__gt__" g fd ps sp) (hr : Room k (lamCx X A outer s H E scope f c').A) : OpR (lamCx X A outer s H E scope f c') (compareOp .Gt) (rBinOwn C sp E) :=
  op_cmpOwn (X := lamCx X A outer s H E scope f c') (fun _ _ => rfl) D.ok D.mt.at_ D.mt.fn D.bd hr (lam_passes (X := X) (A := A) (outer := outer) (s := s) (H := H) (E := E) (scope := scope) (f := f) (c' := c'))
theorem MetOkX.geL (D : MetOkX X.prog X.w X.K X.mg X.base k C "__ge__" g fd ps sp) (hr : Room k (lamCx X A outer s H E scope f c').A) : OpR (lamCx X A outer s H E scope f c') (compareOp .GtE) (rBinOwn C sp E) :=
  op_cmpOwn (X := lamCx X A outer s H E scope f c') (fun _ _ => rfl) D.ok D.mt.at_ D.mt.fn D.bd hr (lam_passes (X := X) (A := A) (outer := outer) (s := s) (H := H) (E := E) (scope := scope) (f := f) (c' := c'))
theorem pe_mkL (D : ClsOkX X.prog X.w X.K X.mg X.base k x C g fd ps sp) (hr : Room (k + 1) (lamCx X A outer s H E scope f c').A) (ha : PA (lamCx X A outer s H E scope f c') (e :: es) t) (hg : Gl (lamCx X A outer s H E scope f c') x := by rfl) (hdb : (x == ("__debug__" : Str)) = false := by decide)
    (he : starEach (e :: es) (lamCx X A outer s H E scope f c').env = (false, eval e (lamCx X A outer s H E scope f c').env) :: starEach es (lamCx X A outer s H E scope f c').env := by rfl) (hpl : (backTo pos (starEach es (lamCx X A outer s H E scope f c').env)).any (·.1) = false := by rfl) :
    PE (lamCx X A outer s H E scope f c') (.Call (.Name x p) (e :: es) [] pos) (tMake C sp [] E t) :=
  pe_make (X := lamCx X A outer s H E scope f c') (CX := L2.CX X.prog X.w) (E := E) D.mkr D.ok hr hg D.mg D.bd .nil (lam_passes (X := X) (A := A) (outer := outer) (s := s) (H := H) (E := E) (scope := scope) (f := f) (c' := c')) ha hdb he hpl
end
end Lm

/-! R18: f(k2 = b, k1 = a), a def by keywords alone. -/
namespace Lm
open PySem L2
def tCallK0 (sp : Sp) (m : Nat) (gV : List V → List V → List V) (E : XK) (tk : TA) : TE := fun σ H Q => tk σ H fun zs H2 => zs.length = m ∧ sp (gV [] zs) H2 Q E
theorem Fun.swap0 {K : PySem.W.Frag} {x qual : Str} {st : Stmt} {f : Addr} {fd : FuncData} {ps : List Str} {k1 k2 : Str} (F : Fun K x qual st f fd)
    (h : ∀ (kV doc pm : Value) (an : Option Addr) (cdv ct : Value) (b c : Value), bindArgs (PySem.W.fnOf x qual (defArgs st) (defBody st) (defScope st) .none kV doc pm an cdv ct) ⟨[], [(k2, c), (k1, b)]⟩ = pure (ps.zip [b, c])) : KBn K fd ps 0 [k2, k1] swapR swapR := by
  obtain ⟨oc, od, kV, doc, pm, an, cdv, ct, osl, rfl, lk, hcd⟩ := F.ex
  refine ⟨fun s us ws X l1 l2 => ?_, fun r1 r2 => vals_app r1 (vals_rev r2)⟩
  match us, ws, l1, l2 with
  | [], [c, b], _, _ => exact .of_eq (h kV doc pm an cdv ct b c)
section
variable {X : Cx} {k : Nat} {f : Addr} {fd : FuncData} {ps ks : List Str} {sp : Sp} {x : Str} {p pos : Pos} {kws : List Keyword} {tk : TA} {g : List Value → List Value → List Value} {gV : List V → List V → List V}
theorem pe_dK (D : DefOk X.prog X.w X.K X.mg X.base k x f fd ps sp) (hb : KBn X.K fd ps 0 ks g gV) (hr : Room k X.A) (hkw : PK X kws tk) (hg : Gl X x := by rfl) (hdb : (x == ("__debug__" : Str)) = false := by decide)
    (hall : (backToKw pos (keywordEach kws X.env)).all (·.1.isSome) = true := by rfl) (hks : (backToKw pos (keywordEach kws X.env)).filterMap (·.1) = ks := by rfl)
    (hpl : ((backTo pos (starEach [] X.env)).any (·.1) || (backToKw pos (keywordEach kws X.env)).any (·.1.isNone)) = false := by rfl) :
    PE X (.Call (.Name x p) [] kws pos) (tCallK0 sp ks.length gV E0 tk) := by
  refine ⟨fun pins s σ H Q I h => ?_⟩
  refine wpAny_Call_Name_kw (ld_glob I hg D.mg ?_ hdb)
  refine PySem.W.callWith_KW0 (h₀ := X.base) I.ok.mod.kin D.kp hall ?_ hpl
  refine thn (hkw.run pos pins s σ H _ I h) fun ws s2 ⟨zs, H2, I2, rz, l2, q2⟩ => ⟨I2.kIn, ?_⟩
  rw [hks]
  have r2 := hb.rel (vs := []) (us := []) .nil rz
  have hl : (g [] ws).length = ps.length := by rw [← r2.length]; exact D.ok.len _ _ _ _ q2
  refine wpAny_call (codeAny_mono (D.ok.run X.A X.stack s2 H2 ⟨[], ks.zip ws⟩ (g [] ws) (gV [] zs) Q E0 hr I2.env0 (hb.to s2 [] ws I2.kIn rfl (rz.length.symm.trans l2)) r2 q2) fun r s' hq => ?_)
  cases r with
  | error e => exact pass0 pins σ H2 s2 e s' I2 hq
  | ok fl =>
    cases fl with
    | ret u => exact I2.after hq
    | next => exact False.elim hq
    | brk => exact False.elim hq
    | cont => exact False.elim hq
end
end Lm

namespace Lm
open PySem PySem.Spec PyProof.Rows L2
/-! ### a star among targets: *a, b = xs; a, *b = xs -/
theorem walks_shift {prog : Program} {w : World} {A : Around} {I : Addr} {fp wr : List Addr} {G : Array GenState → Array GenState → Prop} {n : Nat} {Pi : Nat → Value → Prop} {St : Nat → Shared → Prop} (W : WalksS prog w A I fp wr G n Pi St) (k : Nat) (hk : k ≤ n) :
    WalksS prog w A I fp wr G (n - k) (fun i => Pi (k + i)) (fun i => St (k + i)) := by
  have e : k + (n - k) = n := by omega
  exact ⟨W.sub, W.grefl, W.gtrans, fun i => W.frame (k + i), fun i s Q E hi st hQ => W.item (k + i) s Q E (by omega) st hQ, fun s Q E st hQ => W.done s Q E (e ▸ st) hQ, fun i => W.self (k + i)⟩
section
variable {prog : Program} {w : World} {A : Around} {E : Value → Shared → Prop} {s : Shared}
theorem items_of_drop {items : Array Value} {i : Nat} {acc : Array Value} (hi : i ≤ items.size) (h : ItemsOf (fun k v => items[i + k]? = some v) acc (items.size - i)) : acc.toList = items.toList.drop i := by
  obtain ⟨hs, ha⟩ := h
  refine List.ext_getElem? fun k => ?_
  rw [List.getElem?_drop]
  rcases Nat.lt_or_ge k acc.size with q | q
  · have h1 : acc[k]? = some acc[k] := by simp [q]
    have h2 := ha k _ h1
    rw [Array.getElem?_toList, Array.getElem?_toList, h1, h2]
  · rw [List.getElem?_eq_none (by simpa using q), List.getElem?_eq_none (by rw [Array.length_toList]; omega)]
theorem unpackItems_star {t : Addr} {items : Array Value} {n i : Nat} {Q : List Value → Shared → Prop} (hh : A.handled = none) (ht : s.heap.IsList t items) (hz : items.size ≤ sizeLine) (hi : i < n) (hn : n ≤ items.size + 1)
    (hQ : ∀ (h1 : Heap) (tk : Nat), (∀ b o, s.heap.get? b = some o → h1.get? b = some o) →
      Q (items.toList.take i ++ [.ref h1.objs.size] ++ (items.toList.drop i).drop (items.size - (n - 1))) { s with heap := h1.push { cls := .type "list", data := .seq ((items.toList.drop i).take (items.size - (n - 1))).toArray }, toks := tk }) : wpAny (model prog w) A (unpackItems (.ref t) n (some i)) Q E s := by
  have hlt : t ≠ s.heap.objs.size := by obtain ⟨o, ho, _⟩ := ht; exact Nat.ne_of_lt (Heap.lt_size ho)
  have hta : t < s.heap.objs.size := by obtain ⟨o, ho, _⟩ := ht; exact Heap.lt_size ho
  unfold unpackItems
  refine wpAny_bind ?_
  unfold notIterableAtAll
  refine wpAny_bind (wpAny_specialOf ht.typeIs PySem.F.slot_list_iter.lookup ?_)
  refine wpAny_pure ?_
  simp only [Bool.false_eq_true, if_false]
  refine wpAny_bind (wpAny_holding (wpAny_pyIter_list ht ?_))
  refine wpAny_bind (wpAny_holding (draw_list hlt i 0 _ _ ⟨_, Heap.get?_push_size _ rfl, rfl, rfl⟩ (isList_push ht) (by omega) fun h₁ hit₁ hs₁ => ?_))
  have hfst : List.take i (List.drop 0 items.toList) = items.toList.take i := by rw [List.drop_zero]
  rw [hfst]
  rw [if_neg (by rw [List.length_take, Array.length_toList]; omega)]
  have ht₁ : h₁.IsList t items := isList_ext (isList_push ht) hs₁.extBut hlt
  have hit : h₁.IsListIter s.heap.objs.size t (i + 0) := by
    have e : 0 + i = i + 0 := by omega
    rw [← e]; exact hit₁
  have hsz : s.heap.objs.size < h₁.objs.size := by obtain ⟨o, ho, _⟩ := hit; exact Heap.lt_size ho
  refine wpAny_bind (wpAny_holding (wpAny_collect_iter (T := "list_iterator") (.inr (.inr (.inl rfl))) (walks_shift (Walks.list (prog := prog) (w := w) (A := A.in1) (by simpa using hh) s.heap.objs.size t hlt items).toS i (by omega)) (fun k s2 h => ?_) ⟨hit, ht₁⟩ (fun b hb => ?_) (by simp) (fun s2 acc hm hacc => ?_) (by omega)))
  · obtain ⟨⟨o, ho, hc, _⟩, _⟩ := h
    exact ⟨o, ho, hc⟩
  · simp only [List.mem_cons, List.not_mem_nil, or_false] at hb
    rcases hb with rfl | rfl
    · exact hsz
    · exact Nat.lt_trans hta hsz
  · have hrest := items_of_drop (by omega) hacc
    rw [hrest]
    rw [if_neg (by rw [List.length_drop, Array.length_toList]; omega)]
    have hmid : (List.drop i items.toList).length - (n - 1 - i) = items.size - (n - 1) := by rw [List.length_drop, Array.length_toList]; omega
    rw [hmid]
    unfold newList
    refine wpAny_bind (wpAny_newObj_type ?_ (by show _ ≤ sizeLine; simp; omega))
    refine wpAny_pure ?_
    have old : ∀ b o, s.heap.get? b = some o → s2.heap.get? b = some o := fun b o e => by
      have hb : b ≠ s.heap.objs.size := Nat.ne_of_lt (Heap.lt_size e)
      exact hm.heap b o (by simpa using hb) (hs₁.extBut b o hb (Heap.get?_push_of_some _ e))
    have e2 : ({ s2 with heap := s2.heap.push { cls := .type "list", data := .seq ((items.toList.drop i).take (items.size - (n - 1))).toArray } } : Shared) = { s with heap := s2.heap.push { cls := .type "list", data := .seq ((items.toList.drop i).take (items.size - (n - 1))).toArray }, toks := s2.toks } := by
      have g1 := hm.gens
      have g2 := hm.drawn
      have g3 := hm.os
      cases s2
      cases s
      simp at g1 g2 g3
      simp [g1, g2, g3]
    rw [e2]
    exact hQ s2.heap s2.toks old
end
/-- targets of which the one at i has a star -/
def gStar (K : PySem.W.Frag) (n i : Nat) (t : TGs) : TG := fun v σ H Q => ∃ a xs, v = .ref a ∧ SqL K H a xs ∧ n ≤ xs.length + 1 ∧ ∀ L, H L = none → t (xs.take i ++ [.ref L] ++ (xs.drop i).drop (xs.length - (n - 1))) σ (upd H L (.lst ((xs.drop i).take (xs.length - (n - 1))))) Q
theorem pgs_star {X : Cx} {e : Expr} {p : Pos} {es : List Expr} {t : TG} {u : TGs} (h1 : PG X e t) (h2 : PGs X es u)
    (hs : (assignEach (.Starred e p :: es) X.env).map (·.2) = assign e X.env :: (assignEach es X.env).map (·.2) := by rfl) : PGs X (.Starred e p :: es) (gCons t u) := by
  refine ⟨fun pins s σ H vs us Q I r h => ?_⟩
  obtain ⟨v, vr, e1, h⟩ := h
  subst e1
  cases r with
  | cons r rr =>
    rw [hs]
    refine assignInOrder_cons (thn (h1.run pins s σ H _ _ _ I r h) fun _ s1 ⟨σ1, H1, I1, q1⟩ => ?_)
    exact h2.run pins s1 σ1 H1 _ _ Q I1 rr q1
theorem pg_star {X : Cx} {es : List Expr} {k : Nat} {pos : Pos} {t : TGs} {n i : Nat} (hc : X.calm = true) (h : PGs X es t) (hi : i < n)
    (hn : (assignEach es X.env).length = n := by rfl) (hst : (assignEach es X.env).findIdx? (·.1) = some i := by rfl) : PG X (.Tuple es k pos) (gStar X.K n i t) := by
  refine ⟨fun pins s σ H v u Q I r hw => ?_⟩
  obtain ⟨a, xs, e1, hq, hl, hw⟩ := hw
  subst e1
  cases r
  obtain ⟨its, rv, ⟨o, m, e, hcl, _, d⟩, hz⟩ := I.list hq
  have hlen : its.length = xs.length := rv.length.symm
  rw [PyProof.Rows.assign_Tuple]
  refine wpAny_bind (wpAny_standAt ?_)
  unfold unpack
  have hln : (assignEach es X.env).length = n := hn
  rw [hln, hst]
  refine wpAny_bind (wpAny_holding (unpackItems_star (items := its.toArray) (I.ok.hd hc) ⟨o, e, hcl, m, d⟩ (by rw [List.size_toArray, hlen]; exact hz) hi (by simp; omega) fun h1 tk old => ?_))
  have hsz : its.toArray.size = xs.length := by simp [hlen]
  rw [hsz]
  have I0 : Inv X pins σ H { s with heap := h1, toks := tk } := I.kept (t' := tk) old
  have I1 : Inv X pins σ (upd H h1.objs.size (.lst ((xs.drop i).take (xs.length - (n - 1))))) { s with heap := h1.push { cls := .type "list", data := .seq ((its.toArray.toList.drop i).take (xs.length - (n - 1))).toArray }, toks := tk } := by
    refine I0.laid (t' := tk) (fun b o e => Heap.get?_push_of_some _ e) (Nat.le_refl _) ?_
    refine ⟨?_, _, 0, (rv.drop i).take (xs.length - (n - 1)), Heap.get?_push_size _ rfl⟩
    have : ((xs.drop i).take (xs.length - (n - 1))).length ≤ its.length := by rw [List.length_take, List.length_drop]; omega
    exact Nat.le_trans this (by rw [hlen]; exact hz)
  refine h.run pins _ σ _ _ _ Q I1 ?_ (hw h1.objs.size (I0.hok.fresh (Nat.le_refl _)))
  have hr : RelV (.ref h1.objs.size) (.ref h1.objs.size) := rfl
  exact Vals.append (Vals.append (rv.take i) (.cons hr .nil)) ((rv.drop i).drop _)
end Lm

namespace Lm
open PySem PySem.Spec PyProof.Rows L2
/-! ### for i, x in enumerate(xs, start=k) -/
def IteS (K : PySem.W.Frag) (a : Addr) (k0 : Int) : It :=
  ⟨fun i H => ∃ (xs : List V) (x : V), SqL K H a xs ∧ xs[i]? = some x, fun i H v H' => ∃ T x, v = .ref T ∧ H T = none ∧ H' = upd H T (.tup [.int (k0 + (i : Nat)), x]) ∧ ∀ xs, SqL K H a xs → xs[i]? = some x, fun i H => ∃ xs : List V, SqL K H a xs ∧ i = xs.length⟩
theorem turn_enumS {P : Program} {w : World} {K : PySem.W.Frag} {elts : List Expr} {kk : Nat} {tpos : Pos} (k0 : Int) (a e it : Addr) (hai : a ≠ it) (hae : a ≠ e) (hei : e ≠ it) :
    Turn P w K (.Tuple elts kk tpos) (IteS K a k0) [e, it] e (fun i h => (∃ old, IsEnum h e it (k0 + (i : Nat)) old) ∧ h.IsListIter it a i) where
  mem := by simp
  obj := fun i h st d hd => by
    obtain ⟨⟨old, he⟩, ⟨o, ho, hc, hdt⟩⟩ := st
    rcases (by simpa using hd : d = e ∨ d = it) with q | q
    · rw [q]; exact ⟨_, he, fun v z => nomatch z⟩
    · rw [q]; exact ⟨o, ho, fun v z => by rw [hdt] at z; cases z⟩
  keep := fun i h h' st k => by
    obtain ⟨⟨old, he⟩, hi⟩ := st
    exact ⟨⟨old, k e (by simp) _ he⟩, hi.at fun o q => k it (by simp) o q⟩
  item := by
    intro X hP hw hK hc i pins s σ H E I hf st hg
    subst hP hw hK
    obtain ⟨⟨old, he⟩, hit⟩ := st
    obtain ⟨xs, x, hq, hx⟩ := hg
    obtain ⟨its, rv, p, _⟩ := I.list hq
    obtain ⟨u, hu, ru⟩ := rv.get hx
    have hes : e < s.heap.objs.size := Heap.lt_size he
    have hts : it < s.heap.objs.size := by obtain ⟨_, q, _⟩ := id hit; exact Heap.lt_size q
    have hh : X.A.in1.handled = none := I.ok.hd hc
    have hlt : i < its.toArray.size := by simpa using (List.getElem?_eq_some_iff.mp hu).1
    refine wpAny_pyNext_enum_itemC (Draws.list hh it a hai its.toArray) he ⟨hit, p.isList⟩ hlt hei (fun z => (List.mem_cons.mp z).elim hei fun z => hae (List.mem_singleton.mp z).symm) fun y h' tk hy ho hst' hT hsz hk => ?_
    have ey : y = u := by
      have hy' : its[i]? = some y := by simpa using hy
      rw [hu] at hy'
      exact (Option.some.inj hy').symm
    subst ey
    refine ⟨_, rfl, wpAny_letOwnedTupleGo_enum (s := { s with heap := h', toks := tk + 1 }) ho fun h'' he' sb => ?_⟩
    have hT2 : h''.get? s.heap.objs.size = some { cls := .type "tuple", data := .seq #[.int (k0 + (i : Nat)) tk, y] } := (sb.2 _ (Nat.ne_of_gt hes)).trans hT
    have fresh : ObjOk X.prog X.w (upd H s.heap.objs.size (.tup [.int (k0 + (i : Nat)), x])) h'' s.heap.objs.size (.tup [.int (k0 + (i : Nat)), x]) :=
      ⟨by show 2 ≤ sizeLine; decide, [.int (k0 + (i : Nat)) tk, y], .cons ⟨_, rfl⟩ (.cons ru .nil), ⟨_, hT2, rfl, _, rfl⟩⟩
    have I1 : Inv X pins σ (upd H s.heap.objs.size (.tup [.int (k0 + (i : Nat)), x])) { s with heap := h'', toks := tk + 1 } :=
      I.turnedNew (ch := [e, it]) (fun d o hb q => (sb.2 d (fun z => hb (by simp [z]))).trans (hk d o (fun z => hb (by simp [z])) (fun z => hb (by simp [z])) q)) hf (Nat.le_refl _) fresh
    refine ⟨.ref s.heap.objs.size, _, I1, rfl, ⟨_, x, rfl, I.hok.fresh (Nat.le_refl _), rfl, fun l hl => by rw [I.list_inj hl hq]; exact hx⟩, ⟨⟨y, ?_⟩, hst'.1.at fun o q => (sb.2 it hei.symm).trans q⟩, fun d hd => ?_⟩
    · have e1 : k0 + ((i + 1 : Nat) : Int) = k0 + (i : Int) + 1 := by omega
      rw [e1]
      exact he'
    · have hlt' : d < s.heap.objs.size := by
        rcases (by simpa using hd : d = e ∨ d = it) with q | q
        · rw [q]; exact hes
        · rw [q]; exact hts
      rw [upd_ne (Nat.ne_of_lt hlt')]
      exact (hf d hd).1
  done := by
    intro X hP hw hK hc i pins s σ H E I hf st hg
    subst hP hw hK
    obtain ⟨⟨old, he⟩, hit⟩ := st
    obtain ⟨xs, hq, hx⟩ := hg
    obtain ⟨its, rv, p, _⟩ := I.list hq
    obtain ⟨f0, f1, f2, f3, f4, f5⟩ := hf it (by simp)
    have hh : X.A.in1.handled = none := I.ok.hd hc
    have hsz : i = its.toArray.size := by rw [hx, List.size_toArray]; exact rv.length
    subst hsz
    exact wpAny_pyNext_enum_endD (Draws.list hh it a hai its.toArray) he ⟨hit, p.isList⟩ fun h' eb => ⟨rfl, I.turned (t' := s.toks) (fun b o hb q => eb b o hb q) f0 f1 f3 f4 f5⟩
  self := fun A i s Q E st h => let ⟨⟨_, he⟩, _⟩ := st; wpAny_pyIter_enum he h
theorem callWith_typeKw {M : Model} {A : Around} {E : Value → Shared → Prop} {s : Shared} {pos : Pos} {T : String} {args : List (Bool × Sem Value)} {kws : List (Option Str × Sem Value)} {Q : Value → Shared → Prop} (hplain : (args.any (·.1) || kws.any (·.1.isNone)) = false)
    (h : wpAny M A (evalArgs (.type T) true args kws) (fun a s₁ => wpAny M A (call (.type T) a.pos a.kw) Q E s₁) E s) : wpAny M A (callWith pos (.type T) [] args kws) Q E s := by
  unfold callWith
  refine wpAny_bind (wpAny_holding (wpAny_mono h (fun a s₁ h₁ => wpAny_bind (wpAny_standAt ?_)) fun _ _ x => x))
  simp only [hplain]
  refine wpAny_bind (wpAny_pure ?_)
  exact wpAny_bind (wpAny_mono h₁ (fun r s₂ hr => wpAny_bind (wpAny_holding (wpAny_point (wpAny_pure hr)))) fun _ _ x => x)
def iEnumS (K : PySem.W.Frag) (ta tk : TA) : TI := fun σ H R => ta σ H fun vs H1 => tk σ H1 fun zs H2 => ∃ a xs k0, vs = [.ref a] ∧ zs = [.int k0] ∧ 0 ≤ k0 ∧ k0 < 1000 ∧ SqL K H2 a xs ∧ R (IteS K a k0) H2
theorem pi_enumS {X : Cx} {e : Expr} {ta tk : TA} {p pos tpos : Pos} {elts : List Expr} {kk : Nat} {kws : List Keyword} (hg : Gl X "enumerate") (hm : X.mg "enumerate" = none) (ha : PA X [e] ta) (hkw : PK X kws tk) (hs : starEach [e] X.env = (false, eval e X.env) :: starEach [] X.env := by rfl)
    (hall : (backToKw pos (keywordEach kws X.env)).all (·.1.isSome) = true := by rfl) (hks : (backToKw pos (keywordEach kws X.env)).filterMap (·.1) = [Str.ofString "start"] := by rfl)
    (hpl : ((backTo pos (starEach [e] X.env)).any (·.1) || (backToKw pos (keywordEach kws X.env)).any (·.1.isNone)) = false := by rfl) :
    PI X (.Tuple elts kk tpos) (.Call (.Name "enumerate" p) [e] kws pos) (iEnumS X.K ta tk) := by
  refine ⟨fun pins s σ H R I h => ?_⟩
  refine wpAny_Call_Name_kw (ld_blt I hg hm boot_enumerate (callWith_typeKw hpl (evalArgs_kw2 hall ?_ hs)))
  refine thn (ha.run pos pins s σ H _ I h) fun us s1 ⟨vs, H1, I1, r1, q1⟩ => ?_
  refine thn (hkw.run pos pins s1 σ H1 _ I1 q1) fun ws s2 ⟨zs, H2, I2, rz, q2⟩ => ?_
  obtain ⟨a, xs, k0, ex, ez, hk0, hk1, hq, q⟩ := q2
  subst ex ez
  rw [hks]
  cases r1 with
  | cons r rr =>
    cases rr
    cases r
    cases rz with
    | cons z zr =>
      cases zr
      obtain ⟨tk0, rfl⟩ := z
      obtain ⟨its, rv, p', _⟩ := I2.list hq
      have la : a < s2.heap.objs.size := p'.lt
      refine enum_begins_start (begins_list a its.toArray) p'.isList (by omega) (by omega) fun h' he hit hsz hk => wpAny_pyIter_enum he ?_
      have I3 : Inv X pins σ H2 { s2 with heap := h' } := I2.kept (t' := s2.toks) hk
      refine ⟨s2.heap.objs.size + 1, [s2.heap.objs.size + 1, s2.heap.objs.size], _, _, H2, rfl, I3, turn_enumS k0 a (s2.heap.objs.size + 1) s2.heap.objs.size (Nat.ne_of_lt la) (Nat.ne_of_lt (Nat.lt_succ_of_lt la)) (Nat.succ_ne_self _), ⟨⟨.none, ?_⟩, ⟨_, hit, rfl, rfl⟩⟩, fun b hb => ?_, q⟩
      · have e0 : k0 + ((0 : Nat) : Int) = k0 := by omega
        rw [e0]
        exact he
      · have hle : s2.heap.objs.size ≤ b := by
          rcases (by simpa using hb : b = s2.heap.objs.size + 1 ∨ b = s2.heap.objs.size) with z | z
          · rw [z]; exact Nat.le_add_right _ _
          · rw [z]; exact Nat.le_refl _
        exact I2.fpOk hle (I2.hok.fresh hle)
theorem walk_enumS {K : PySem.W.Frag} {a : Addr} {xs : List V} {k0 : Int} : Walk (IteS K a k0) xs.length (fun H => SqL K H a xs) (YPair (fun i => some (.int (k0 + (i : Nat)))) (fun i => xs[i]?)) := by
  refine ⟨fun i _ hi q => ⟨xs, xs[i], q, by simp [hi]⟩, fun _ q => ⟨xs, q, rfl⟩, fun i H v H' _ q y => ?_⟩
  obtain ⟨T, x, h1, h2, h3, h4⟩ := y
  exact ⟨T, .int (k0 + (i : Nat)), x, h1, h2, h3, rfl, h4 xs q⟩
end Lm

namespace Lm
open PySem PySem.Spec PyProof.Rows L2
/-- text * int, for a number from 2 on -/
def repS (x : Str) (n : Nat) : Str := ⟨(List.replicate n x.cps).foldl (· ++ ·) #[]⟩
def rMulS : R2 := fun x y H Q => ∃ (a : Str) (n : Nat), x = .str a ∧ y = .int (n : Int) ∧ 2 ≤ n ∧ n ≤ 1000 ∧ 0 < a.length ∧ a.length ≤ 1000 ∧ Q (.str (repS a n)) H
theorem foldl_app : ∀ (l : List (Array Nat)) (acc : Array Nat), (l.foldl (· ++ ·) acc).toList = acc.toList ++ (l.map Array.toList).flatten
  | [], acc => by simp
  | a :: r, acc => by rw [List.foldl_cons, foldl_app r]; simp
theorem tl_repS (x : Str) (n : Nat) : TL.tl (repS x n) = (List.replicate n (TL.tl x)).flatten := by
  show ((List.replicate n x.cps).foldl (· ++ ·) #[]).toList = _
  rw [foldl_app]
  simp [TL.tl]
theorem op_mulS {X : Cx} : OpR X (binaryOp .Mult) rMulS := by
  intro pins s σ H x y v u Q I rx ry h
  obtain ⟨a, n, rfl, rfl, h1, h2, h3, h4, q⟩ := h
  obtain ⟨t, rfl⟩ := rx
  obtain ⟨t', rfl⟩ := ry
  have hn1 : ¬ (n : Int) < 1 := by omega
  have hne : ((n : Int) == 1 || a.length == 0) = false := by
    have e1 : ((n : Int) == 1) = false := by simpa using (by omega : ¬ (n : Int) = 1)
    have e2 : (a.length == 0) = false := by simpa using (by omega : ¬ a.length = 0)
    rw [e1, e2]; rfl
  have hprod : a.length * n ≤ 1000000 := Nat.mul_le_mul h4 h2
  refine P.mul_str ?_ (fun _ _ => ?_) (fun _ _ => ?_) ?_
  · rw [decide_eq_false (by omega), decide_eq_false (by omega)]; rfl
  · have hle : (a.length : Int) * (n : Int) ≤ 2 ^ 63 - 1 := by
      have : (a.length : Int) * (n : Int) = ((a.length * n : Nat) : Int) := by simp
      rw [this]
      omega
    have hd : (a.length : Int) ≤ (2 ^ 63 - 1) / (n : Int) := (Int.le_ediv_iff_mul_le (by omega)).mpr hle
    omega
  · have : (n : Int).toNat = n := by simp
    rw [this]
    unfold Builtin.Str.tooLong
    simp
    have : (1000000 : Nat) ≤ sizeLine := by decide
    omega
  · rw [if_neg hn1, if_neg (by rw [hne]; simp)]
    have e : (n : Int).toNat = n := by simp
    rw [e]
    have hl : (repS a n).length ≤ sizeLine := by
      have e3 := TL.len_tl (repS a n)
      rw [tl_repS] at e3
      have e4 : (List.replicate n (TL.tl a)).flatten.length = n * (TL.tl a).length := by simp
      rw [e4, ← TL.len_tl] at e3
      have e5 : n * a.length = a.length * n := Nat.mul_comm _ _
      have : (1000000 : Nat) ≤ sizeLine := by decide
      omega
    exact ⟨hl, .str (repS a n), H, I.tok (t := s.toks + 1), ⟨_, rfl⟩, q⟩
end Lm

namespace Lm
open PySem L2
/-! ### readings of texts -/
def rStrO : List V → Hp → VK → Prop := fun xs H Q => (∃ i : Int, xs = [.int i] ∧ i.natAbs.log2 < 1920 ∧ Q (.str (toString i)) H) ∨ ∃ a : Str, xs = [.str a] ∧ Q (.str a) H
theorem call_strO {X : Cx} : CallR X (.type "str") rStrO := by
  intro pins s σ H xs us Q I r h
  rcases h with h | h
  · exact call_str_int pins s σ H xs us Q I r h
  · exact SkE.call_str_str pins s σ H xs us Q I r h
def rIntS : List V → Hp → VK → Prop := fun xs H Q => ∃ a n, xs = [V.str a] ∧ PySem.intText? a = some n ∧ a.length ≤ 640 ∧ Q (.int n) H
def rJoin (K : PySem.W.Frag) : V → List V → Hp → VK → Prop := fun x xs H Q => ∃ a p, ∃ ys : List Str, x = .str a ∧ xs = [.ref p] ∧ (SqL K H p (ys.map V.str) ∨ SqT K H p (ys.map V.str)) ∧ (ys.map (·.length)).sum + ys.length * a.length ≤ 16777216 ∧ Q (.str (Txt.join a ys)) H
def rSplit : V → List V → Hp → VK → Prop := fun x xs H Q => ∃ a b, x = .str a ∧ xs = [.str b] ∧ (b.length == 0) = false ∧ a.length + 2 ≤ sizeLine ∧ rNewStrs (Txt.split a b) H Q
def rInSign : R2 := fun x y H Q => ∃ (c : Nat) (z : Str), x = .str ⟨#[c]⟩ ∧ y = .str z ∧ Q (.bl (decide (c ∈ z.cps.toList))) H
def rNotInSign : R2 := fun x y H Q => ∃ (c : Nat) (z : Str), x = .str ⟨#[c]⟩ ∧ y = .str z ∧ Q (.bl (!decide (c ∈ z.cps.toList))) H
/-- nothing is raised by a def that might raise -/
def XNo : XK := fun _ _ _ => False
theorem passes_no {X : Cx} : Passes (L2.CX X.prog X.w) X XNo := fun _ _ _ _ _ _ _ h => by
  obtain ⟨_, _, _, _, _, _, _, _, _, _, _, _, h⟩ := h
  exact h.elim
end Lm

namespace Lm
open PySem L2 LamX NdefX PySem.Spec PyProof.Rows
/-! ### a def within a def, handed to another def that calls it -/
theorem CellsAt.un {cl : List (Str × Addr)} {fr : List Str} {ws : List (Option V)} {h h1 : Heap} {H H1 : Hp} {fs : List Addr} (C : CellsAt cl fr ws h H) (un : Un fs [] H H1 h h1) : CellsAt cl fr ws h1 H1 := by
  have kp : ∀ y c, cl.lookup y = some c → ∀ v, h.IsCell c v → h1.IsCell c v := fun y c e v ⟨o, ho, hd⟩ => by
    obtain ⟨sl, q⟩ := un.any ho (C.all y c e).1 (by simp)
    exact ⟨_, q, hd⟩
  refine ⟨C.len, fun y c e => ?_, C.inj, fun i y e => ?_⟩
  · obtain ⟨n, v, z⟩ := C.all y c e
    obtain ⟨o, ho, hd⟩ := id z
    exact ⟨un.free c o ho n (by simp), v, kp y c e v z⟩
  · obtain ⟨c, hc, hv⟩ := C.has i y e
    refine ⟨c, hc, fun v ev => ?_⟩
    obtain ⟨u, r, z⟩ := hv v ev
    exact ⟨u, r, kp y c hc _ z⟩
/-- f(..), f a parameter that holds the function F made by a caller; ws: what its cells hold -/
def tCallH (F : NF) (f : Addr) (ws : List (Option V)) (i : Nat) (sp : List (Option V) → Sp) (E : XK) (t : TA) : TE := fun σ H Q => σ[i]? = some (some (.ref f)) ∧ H f = some (FnO f F) ∧
  t σ H fun vs H1 => H1 f = some (FnO f F) ∧ H1 F.c = some (CodeO F.c F.qual) ∧ sp ws vs H1 Q E
theorem pe_callh {Z : Cx} {CX : CXT} {F : NF} {ps fr : List Str} {ws : List (Option V)} {i k : Nat} {x : Str} {f : Addr} {sp : List (Option V) → Sp} {E : XK} {t : TA} {e : Expr} {es : List Expr} {p pos : Pos}
    (Fn : NOk Z.prog Z.w Z.K Z.mg Z.base CX k f F ps fr sp) (C : ∀ pins σ H s, Inv Z pins σ H s → CellsAt F.cl fr ws s.heap H) (hr : Room k Z.A) (hx : Passes CX Z E) (hN : Z.N[i]? = some x) (hv : Vis Z.env.scope x) (ha : PA Z (e :: es) t)
    (hd : (x == ("__debug__" : Str)) = false := by decide) (hcd : (x == ("__classdict__" : Str)) = false := by decide)
    (he : starEach (e :: es) Z.env = (false, eval e Z.env) :: starEach es Z.env := by rfl) (hpl : (backTo pos (starEach es Z.env)).any (·.1) = false := by rfl) :
    PE Z (.Call (.Name x p) (e :: es) [] pos) (tCallH F f ws i sp E t) := by
  refine ⟨fun pins s σ H Q I h => ?_⟩
  obtain ⟨hs, hf, ht⟩ := h
  refine wpAny_Call_Name_kw (thn ((pe_var (pos := p) hN hv hd hcd).run pins s σ H (fun v H1 => v = .ref f ∧ H1 = H) I ⟨.ref f, hs, rfl, rfl⟩) fun u s1 ⟨v, H1, I1, r1, q1⟩ => ?_)
  obtain ⟨ev, eH⟩ := q1
  subst ev
  rw [eH] at I1
  obtain rfl : u = Value.ref f := r1
  refine PySem.W.callWith_F (first := []) (fnAt_of I1 hf) (thn (ha.run pos pins s1 σ H _ I1 ht) fun us s2 ⟨vs, H2, I2, r, h1, h2, q⟩ => ⟨fnAt_of I2 h1, ?_⟩) he hpl
  show wpAny _ _ (call (.ref f) us) _ _ _
  refine wpAny_call (codeAny_mono (Fn.run Z.A Z.stack s2 H2 us vs _ Q E hr I2.env0 h1 h2 (C _ _ _ _ I2) r q) fun r s' hq => ?_)
  cases r with
  | error e => exact hx pins σ H2 s2 e s' I2 hq
  | ok fl =>
    cases fl with
    | ret u => exact I2.after hq
    | next => exact False.elim hq
    | brk => exact False.elim hq
    | cont => exact False.elim hq
/-- x(e, g), g a function that was made here -/
def tHand (mk : Addr → NF) (js : List Nat) (t : TA) (TT : Addr → Addr → List (Option V) → V → Hp → VK → Prop) : TE := fun σ H Q => t σ H fun vs H1 => ∃ v f c', vs = [v, .ref f] ∧ H1 f = some (FnO f (mk c')) ∧ TT f c' (js.map (slotAt σ)) v H1 Q
/-- the def that got a thing and a function -/
def GivesN (X : Cx) (Ng : List Str) (x : Str) (sg : Scope) (g : Addr) (cdg : Value) (bg : List Stmt) (mk : Addr → NF) (fr : List Str) (k : Nat) (TT : Addr → Addr → List (Option V) → V → Hp → VK → Prop) : Prop :=
  ∀ (f c' : Addr) (ws : List (Option V)) (v : V) (s : Shared) (H : Hp) (Q : VK), Room k (X.A.deeper (envOfC x sg s.heap.objs.size g cdg)) → (∀ pins σ H' s', Inv (cxOf C8.CX0 X.prog X.w X.K X.mg X.base Ng x sg g cdg X.A X.stack s H C8.E0).nox pins σ H' s' → CellsAt (mk c').cl fr ws s'.heap H') →
    H f = some (FnO f (mk c')) → TT f c' ws v H Q → ∃ t, PSs (cxOf C8.CX0 X.prog X.w X.K X.mg X.base Ng x sg g cdg X.A X.stack s H C8.E0).nox bg t ∧ t { nx := fun _ H' => Q .non H', rt := Q } (L2.start Ng [v, .ref f]) H
theorem pe_hand {X : Cx} {mk : Addr → NF} {cl : List (Str × Addr)} {fr : List Str} {js : List Nat} {TT : Addr → Addr → List (Option V) → V → Hp → VK → Prop} {x a1 a2 : Str} {g : Addr} {k : Nat} {pg : Arguments} {bg : List Stmt} {sg : Scope} {dV kV doc pm cdv ct oc : Value} {an od : Option Addr} {osl : Array (Option Value)} {Ng : List Str} {e1 e2 : Expr} {t : TA} {p pos : Pos}
    (hg : Gl X x) (hm : X.mg x = some (.ref g)) (hk : PySem.W.keepIn X.K (.ref g) = true) (lk : X.K.lookup g = some ⟨oc, od, .func (PySem.W.fnOf x x pg bg sg dV kV doc pm an cdv ct), osl⟩) (hcg : PySem.W.codeIn X.K cdv x = true)
    (hb : L2.Binds X.K (PySem.W.fnOf x x pg bg sg dV kV doc pm an cdv ct) [a1, a2] []) (Sg : FnScope Ng [a1, a2] sg) (hG : GivesN X Ng x sg g cdv bg mk fr k TT) (hcl : ∀ c', (mk c').cl = cl) (cp : X.Ok → Caps X cl fr js) (hr : Room (k + 1) X.A) (ha : PA X [e1, e2] t)
    (hdb : (x == ("__debug__" : Str)) = false := by decide) (hst : starEach [e1, e2] X.env = (false, eval e1 X.env) :: starEach [e2] X.env := by rfl) (hpl : (backTo pos (starEach [e2] X.env)).any (·.1) = false := by rfl) :
    PE X (.Call (.Name x p) [e1, e2] [] pos) (tHand mk js t TT) := by
  refine ⟨fun pins s σ H Q I h => ?_⟩
  refine wpAny_Call_Name_kw (ld_glob I hg hm ?_ hdb)
  refine PySem.W.callWith_K (h₀ := X.base) I.ok.mod.kin hk (thn (ha.run pos pins s σ H _ I h) fun us s1 ⟨vs, H1, I1, r, v, f, c', evs, hf, ht⟩ => ⟨I1.kIn, ?_⟩) hst hpl
  subst evs
  have rc : codeAny (model X.prog X.w) X.A (.call (.ref g) ⟨us, []⟩) (CR C8.CX0 X.stack X.prog X.w H1 s1 Q C8.E0) s1 := by
    refine run_ofS (N := Ng) (ps := [a1, a2]) (us := us) (vs := [v, .ref f]) lk hcg Sg hr I1.env0 (by
      have q := hb s1 us I1.kIn (by rw [List.append_nil, ← r.length]; rfl)
      rw [List.append_nil] at q
      exact q) r rfl fun hr' => ?_
    have C0 := cells_of I1 (cp I1.ok)
    obtain ⟨t', ht', hq'⟩ := hG f c' (js.map (slotAt σ)) v s1 H1 Q hr' (fun pins2 σ2 H2 s2 I2 => by rw [hcl]; exact CellsAt.un C0 I2.base) hf ht
    exact ⟨t', ht'.nox, hq'⟩
  refine wpAny_call (codeAny_mono rc fun r s2 hq => ?_)
  cases r with
  | error e => exact (show False from hq).elim
  | ok fl =>
    cases fl with
    | ret u => exact I1.after hq
    | next => exact False.elim hq
    | brk => exact False.elim hq
    | cont => exact False.elim hq
end Lm

namespace Lm
open PySem L2
/-! ### a list of anything against [] -/
def rNeE (K : PySem.W.Frag) : R2 := fun x y H Q => ∃ a b xs, x = .ref a ∧ y = .ref b ∧ SqL K H a xs ∧ SqL K H b [] ∧ Q (.bl (!decide (xs = []))) H
theorem op_neE {X : Cx} (hu : X.A.units + 64 < PySem.cLine) : OpR X (compareOp .NotEq) (rNeE X.K) := by
  intro pins s σ H x y v u Q I rx ry h
  obtain ⟨a, b, xs, rfl, rfl, ha, hb, q⟩ := h
  cases (show v = Value.ref a from rx)
  cases (show u = Value.ref b from ry)
  obtain ⟨us, r1, p1, _⟩ := I.list ha
  obtain ⟨ws, r2, p2, _⟩ := I.list hb
  have hw : ws = [] := List.length_eq_zero_iff.mp r2.length.symm
  subst hw
  by_cases hx : xs = []
  · subst hx
    have hu' : us = [] := List.length_eq_zero_iff.mp r1.length.symm
    subst hu'
    refine PySem.SeqAt.RcNeAt.lists (e := fun _ => true) p1.isList p2.isList rfl (by omega) (fun j h1 h2 => (Nat.not_lt_zero _ h1).elim) _ _ _ _ ?_
    exact ⟨.bl false, H, I, rfl, q⟩
  · have hl : us.length ≠ 0 := fun z => hx (List.length_eq_zero_iff.mp (by rw [r1.length]; exact z))
    refine PySem.SeqAt.RcNeAt.lists_lengths p1.isList p2.isList ?_ (by omega) _ _ _ _ ?_
    · rw [bne_iff_ne]
      simpa using hl
    · refine ⟨.bl true, H, I, rfl, ?_⟩
      rw [decide_eq_false hx] at q
      exact q
end Lm

namespace Lm
open PySem L2 PySem.Spec PyProof.Rows
/-! ### C.m(), m a static method of the class at C -/
structure SMet (K : PySem.W.Frag) (C : Addr) (mc : Value) (m : Str) (p g : Addr) : Prop where
  rd : PySem.W.readsIn K C mc = true
  ga : PySem.W.specialIn K (.ref C) "__getattribute__" = some (some (.builtin "type.__getattribute__"))
  at_ : PySem.W.findCls K (.ref C) mc m = some (.get (.builtin "staticmethod.__get__") (.ref p) .none (.ref C))
  rc : ∃ rest, PySem.W.recIn K p "staticmethod" = some (.ref g :: rest)
  kp : PySem.W.keepIn K (.ref g) = true
def tSMeth (C : Addr) (sp : Sp) (E : XK) (ta : TE) : TE := fun σ H Q => ta σ H fun x H1 => x = .ref C ∧ sp [] H1 Q E
theorem pe_smeth0 {X : Cx} {CX : CXT} {k : Nat} {C p g : Addr} {mc : Value} {m : Str} {sp : Sp} {E : XK} {fd : FuncData} {o : Expr} {pos apos : Pos} {ta : TE} {pl : Sem Bool} (F : FnOk X.prog X.w X.K X.mg X.base CX k g fd [] sp) (c : SMet X.K C mc m p g) (hb : L2.Binds X.K fd [] []) (hr : Room k X.A) (hx : Passes CX X E) (he : PE X o ta)
    (ht : eval (.Call (.Attribute o m apos) [] [] pos) X.env = (do
      let ov ← eval o X.env
      standAt apos.atName
      let (f, first) ← holding [ov] (getMethod ov m pl)
      callWith pos f first (backTo pos (starEach [] X.env)) (backToKw pos (keywordEach [] X.env))) := by rfl) : PE X (.Call (.Attribute o m apos) [] [] pos) (tSMeth C sp E ta) := by
  refine ⟨fun pins s σ H Q I h => ?_⟩
  refine PySem.W.methodCall_KW (pl := pl) (thn (he.run pins s σ H _ I h) fun u s1 ⟨x, H1, I1, rx, ex, q⟩ => ?_) ht
  subst ex
  obtain rfl : u = Value.ref C := rx
  obtain ⟨rest, hp⟩ := c.rc
  refine PySem.W.method_cls I1.kIn c.ga (PySem.W.cls_bind I1.kIn c.rd c.at_ (wpAny_call (PySem.W.sm_get (s := { s1 with toks := s1.toks + 1 }) I1.kIn hp (PySem.W.handed_on rfl ?_))))
  have I2 := I1.tok (t := s1.toks + 1)
  exact PySem.W.callWith_K0 I2.kIn c.kp (run_fn (us := []) (vs := []) F hr hb .nil hx I2 .nil q)
end Lm

namespace Lm
open PySem L2
section
variable {X : Cx} {k : Nat} {f : Addr} {fd : FuncData} {ps ks : List Str} {sp : Sp} {x : Str} {p pos : Pos} {kws : List Keyword} {tk : TA} {g : List Value → List Value → List Value} {gV : List V → List V → List V} {E : XK}
/-- a def that may raise, called by keywords alone -/
theorem pe_dKX (D : DefOkX X.prog X.w X.K X.mg X.base k x f fd ps sp) (hb : KBn X.K fd ps 0 ks g gV) (hr : Room k X.A) (hx : Passes (L2.CX X.prog X.w) X E) (hkw : PK X kws tk) (hg : Gl X x := by rfl) (hdb : (x == ("__debug__" : Str)) = false := by decide)
    (hall : (backToKw pos (keywordEach kws X.env)).all (·.1.isSome) = true := by rfl) (hks : (backToKw pos (keywordEach kws X.env)).filterMap (·.1) = ks := by rfl)
    (hpl : ((backTo pos (starEach [] X.env)).any (·.1) || (backToKw pos (keywordEach kws X.env)).any (·.1.isNone)) = false := by rfl) :
    PE X (.Call (.Name x p) [] kws pos) (tCallK0 sp ks.length gV E tk) := by
  refine ⟨fun pins s σ H Q I h => ?_⟩
  refine wpAny_Call_Name_kw (ld_glob I hg D.mg ?_ hdb)
  refine PySem.W.callWith_KW0 (h₀ := X.base) I.ok.mod.kin D.kp hall ?_ hpl
  refine thn (hkw.run pos pins s σ H _ I h) fun ws s2 ⟨zs, H2, I2, rz, l2, q2⟩ => ⟨I2.kIn, ?_⟩
  rw [hks]
  have r2 := hb.rel (vs := []) (us := []) .nil rz
  have hl : (g [] ws).length = ps.length := by rw [← r2.length]; exact D.ok.len _ _ _ _ q2
  refine wpAny_call (codeAny_mono (D.ok.run X.A X.stack s2 H2 ⟨[], ks.zip ws⟩ (g [] ws) (gV [] zs) Q E hr I2.env0 (hb.to s2 [] ws I2.kIn rfl (rz.length.symm.trans l2)) r2 q2) fun r s' hq => ?_)
  cases r with
  | error e => exact hx pins σ H2 s2 e s' I2 hq
  | ok fl =>
    cases fl with
    | ret u => exact I2.after hq
    | next => exact False.elim hq
    | brk => exact False.elim hq
    | cont => exact False.elim hq
end
end Lm

namespace Lm
open PySem PySem.Spec PyProof.Rows L2
/-! ### xs[i:j:k] of a list -/
def pickV (xs : List V) (lo hi st : Option Int) : List V := (sliceRange (sliceBounds lo hi st xs.length).1 (sliceBounds lo hi st xs.length).2.1 (sliceBounds lo hi st xs.length).2.2).filterMap (xs[·]?)
theorem vals_pick {xs : List V} {its : List Value} (r : Vals xs its) : ∀ ns : List Nat, Vals (ns.filterMap (xs[·]?)) (ns.filterMap (its[·]?))
  | [] => .nil
  | n :: ns => by
    rw [List.filterMap_cons, List.filterMap_cons]
    cases e : xs[n]? with
    | none =>
      have : its[n]? = none := by
        rw [List.getElem?_eq_none_iff] at e ⊢
        rw [← r.length]
        exact e
      rw [this]
      exact vals_pick r ns
    | some x =>
      obtain ⟨u, hu, ru⟩ := r.get e
      rw [hu]
      exact .cons ru (vals_pick r ns)
theorem pickV_len (xs : List V) (lo hi st : Option Int) (its : List Value) (r : Vals xs its) : (slicePick its.toArray lo hi st) = ((sliceRange (sliceBounds lo hi st xs.length).1 (sliceBounds lo hi st xs.length).2.1 (sliceBounds lo hi st xs.length).2.2).filterMap (its[·]?)).toArray := by
  unfold slicePick
  rw [List.size_toArray, ← r.length]
  simp
def tSlSt (K : PySem.W.Frag) (te : TE) (tl th ts : TO) : TE := fun σ H Q => te σ H fun x H1 => tl σ H1 fun lo H2 => th σ H2 fun hi H3 => ts σ H3 fun st H4 => ∃ a xs, x = .ref a ∧ SqL K H4 a xs ∧ st ≠ some 0 ∧ (pickV xs lo hi st).length ≤ sizeLine ∧ ∀ p, H4 p = none → Q (.ref p) (upd H4 p (.lst (pickV xs lo hi st)))
theorem pe_slSt {X : Cx} {e st : Expr} {l u : Option Expr} {te : TE} {tl th ts : TO} {p3 pos : Pos} (he : PE X e te) (h1 : PO X l tl) (h2 : PO X u th) (h3 : PO X (some st) ts) : PE X (.Subscript e (.Slice l u (some st) p3) pos) (tSlSt X.K te tl th ts) := by
  refine ⟨fun pins s σ H Q I h => ?_⟩
  refine Subscript_ (thn (he.run pins s σ H _ I h) fun v s1 ⟨x, H1, I1, r1, q1⟩ => ?_)
  refine wpAny_Slice (thn (h1.run pins s1 σ H1 _ I1 q1) fun vl s2 ⟨lo, H2, I2, pl, q2⟩ => ?_)
  refine thn (h2.run pins s2 σ H2 _ I2 q2) fun vu s3 ⟨hi, H3, I3, pu, q3⟩ => ?_
  refine thn (h3.run pins s3 σ H3 _ I3 q3) fun vs s4 ⟨so, H4, I4, ps, a, xs, ex, hx, h0, hz, q⟩ => ?_
  subst ex
  cases r1
  have I5 : Inv X pins σ H4 { s4 with heap := s4.heap.push { cls := .type "slice", data := .fields #[vl, vu, vs] } } := I4.kept (t' := s4.toks) fun b ob q => Heap.get?_push_of_some _ q
  obtain ⟨its, r, ht, hz2⟩ := I5.list hx
  have hlen := r.length
  show wpAny (model X.prog X.w) X.A (subscriptTail e (.Slice l u (some st) p3) (.ref a) (.ref s4.heap.objs.size)) (EP X pins σ Q) X.xe { s4 with heap := s4.heap.push { cls := .type "slice", data := .fields #[vl, vu, vs] } }
  refine tail_any (ops := [.ref a, .ref s4.heap.objs.size]) ht.isList.typeIs (PySem.slot_list_getitem.lookup) ?_ (by with_unfolding_all rfl)
  refine wpAny_getItem_list_slice ht.isList (Heap.IsSliceOf.new _ vl vu vs) pl pu ps h0 ?_ (by rw [List.size_toArray]; omega)
  rw [pickV_len xs lo hi so its r]
  refine ⟨.ref _, _, I5.laid (t' := s4.toks) (o := .lst (pickV xs lo hi so)) (fun b ob q => Heap.get?_push_of_some _ q) (Nat.le_refl _) ?_, rfl, q _ (I5.hok.fresh (Nat.le_refl _))⟩
  exact ⟨hz, _, 0, vals_pick r _, Heap.get?_push_size _ rfl⟩
end Lm

namespace Lm
open PySem L2 ClX
/-! ### cls(e, ..), cls a name that holds the class at C -/
def tMakeV (i : Nat) (C : Addr) (sp : Sp) (E : XK) (t : TA) : TE := fun σ H Q => σ[i]? = some (some (.ref C)) ∧ tMake C sp [] E t σ H Q
theorem pe_mkV {X : Cx} {k i : Nat} {f C : Addr} {fd : FuncData} {ps : List Str} {sp : Sp} {x y : Str} {p pos : Pos} {e : Expr} {es : List Expr} {t : TA} (D : ClsOk X.prog X.w X.K X.mg X.base k y C f fd ps sp) (hr : Room (k + 1) X.A) (hN : X.N[i]? = some x) (hv : Vis X.env.scope x) (ha : PA X (e :: es) t)
    (hd : (x == ("__debug__" : Str)) = false := by decide) (hcd : (x == ("__classdict__" : Str)) = false := by decide)
    (he : starEach (e :: es) X.env = (false, eval e X.env) :: starEach es X.env := by rfl) (hpl : (backTo pos (starEach es X.env)).any (·.1) = false := by rfl) :
    PE X (.Call (.Name x p) (e :: es) [] pos) (tMakeV i C sp E0 t) := by
  refine ⟨fun pins s σ H Q I h => ?_⟩
  obtain ⟨hs, ht⟩ := h
  refine wpAny_Call_Name_kw (thn ((pe_var (pos := p) hN hv hd hcd).run pins s σ H (fun v H1 => v = .ref C ∧ H1 = H) I ⟨.ref C, hs, rfl, rfl⟩) fun u s1 ⟨v, H1, I1, r1, q1⟩ => ?_)
  obtain ⟨ev, eH⟩ := q1
  subst ev
  rw [eH] at I1
  obtain rfl : u = Value.ref C := r1
  refine PySem.W.callWith_K (h₀ := X.base) I.ok.mod.kin D.mkr.kp (thn (ha.run pos pins s1 σ H _ I1 ht) fun us s2 ⟨vs, H2, I2, r, q⟩ => ⟨I2.kIn, ?_⟩) he hpl
  exact run_make D.mkr D.ok hr D.bd .nil pass0 I2 r q
/-! ### C.m(k = v), m a classmethod -/
def tCMethK (C : Addr) (n : Nat) (sp : Sp) (gV : List V → List V → List V) (E : XK) (ta : TE) (tk : TA) : TE := fun σ H Q => ta σ H fun x H1 => x = .ref C ∧ tk σ H1 fun zs H2 => zs.length = n ∧ sp (gV [.ref C] zs) H2 Q E
theorem pe_cmethK {X : Cx} {CX : CXT} {k : Nat} {C p g : Addr} {mc : Value} {m : Str} {sp : Sp} {E : XK} {fd : FuncData} {ps ks : List Str} {G : List Value → List Value → List Value} {gV : List V → List V → List V} {o : Expr} {pos apos : Pos} {ta : TE} {tk : TA} {kws : List Keyword} {pl : Sem Bool}
    (F : FnOk X.prog X.w X.K X.mg X.base CX k g fd ps sp) (hb : KBn X.K fd ps 1 ks G gV) (r : CRead X.K C mc) (c : CMet X.K C mc m p g) (hr : Room k X.A) (hx : Passes CX X E) (he : PE X o ta) (hkw : PK X kws tk)
    (hall : (backToKw pos (keywordEach kws X.env)).all (·.1.isSome) = true := by rfl) (hks : (backToKw pos (keywordEach kws X.env)).filterMap (·.1) = ks := by rfl)
    (hpl : ((backTo pos (starEach [] X.env)).any (·.1) || (backToKw pos (keywordEach kws X.env)).any (·.1.isNone)) = false := by rfl)
    (ht : eval (.Call (.Attribute o m apos) [] kws pos) X.env = (do
      let ov ← eval o X.env
      standAt apos.atName
      let (f, first) ← holding [ov] (getMethod ov m pl)
      callWith pos f first (backTo pos (starEach [] X.env)) (backToKw pos (keywordEach kws X.env))) := by rfl) :
    PE X (.Call (.Attribute o m apos) [] kws pos) (tCMethK C ks.length sp gV E ta tk) := by
  refine ⟨fun pins s σ H Q I h => ?_⟩
  refine PySem.W.methodCall_KW (pl := pl) (thn (he.run pins s σ H _ I h) fun u s1 ⟨x, H1, I1, rx, ex, q⟩ => ?_) ht
  subst ex
  obtain rfl : u = Value.ref C := rx
  refine getmethcm_ok I1 r c fun s2 I2 => ?_
  refine PySem.W.callWith_of hpl (PySem.W.keeps_M (self := .ref C) c.fi) (PyProof.Rows.evalArgs_kw2_nil hall ?_)
  refine thn (hkw.run pos _ s2 σ H1 _ I2 q) fun ws s3 ⟨zs, H2, I3, rz, l2, q2⟩ => ⟨⟨pin_at I3, I3.kIn⟩, ?_⟩
  rw [hks]
  have r2 := hb.rel (vs := [V.ref C]) (us := [Value.ref C]) (.cons rfl .nil) rz
  have z : wpAny (model X.prog X.w) X.A (call (.ref s1.heap.objs.size) [] (ks.zip ws)) (EP X ((s1.heap.objs.size, PySem.W.methodObj (.ref g) (.ref C)) :: pins) σ Q) X.xe s3 := by
   refine wpAny_call (PySem.W.method_call (pin_at I3) (codeAny_mono (F.run X.A X.stack s3 H2 ⟨[.ref C], ks.zip ws⟩ (G [.ref C] ws) (gV [.ref C] zs) Q E hr I3.env0 (hb.to s3 [.ref C] ws I3.kIn rfl (rz.length.symm.trans l2)) r2 q2) fun r s' hq => ?_))
   cases r with
   | error e => exact hx _ σ H2 s3 e s' I3 hq
   | ok fl =>
     cases fl with
     | ret u => exact I3.after hq
     | next => exact False.elim hq
     | brk => exact False.elim hq
     | cont => exact False.elim hq
  exact thn z fun _ _ y => unpinE y
end Lm

namespace Lm
open PySem L2 Evl
/-! ### an own error with two fields -/
structure ErrF2 (K : PySem.W.Frag) (mg : Str → Option Value) (x : Str) (C fI : Addr) (f1 f2 : Str) : Prop where
  g : mg x = some (.ref C)
  T : OexC K C
  X : XfC K C
  ini : PySem.W.findIn K (.ref C) "__init__" = some (some (.ref fI))
  ty : PySem.W.typeIn K (.ref fI) = some (.type "function")
  n1 : PySem.W.findIn K (.ref C) f1 = some none
  n2 : PySem.W.findIn K (.ref C) f2 = some none
  ic : PySem.W.isClsIn K C = true
  self : PySem.W.subIn K (.ref C) (.ref C) = some true
theorem ErrF2.exm {K : PySem.W.Frag} {mg : Str → Option Value} {x : Str} {C fI : Addr} {f1 f2 : Str} (T : ErrF2 K mg x C fI f1 f2) : PySem.W.exmOne K (.ref C) (.ref C) = some true := exm_self T.T.exC T.ic T.T.tyC T.self
def spErrI2 (C : Addr) (f1 f2 : Str) : Sp := fun vs H Q _ => ∃ (a : Addr) (v1 v2 : V), vs = [.ref a, v1, v2] ∧ H a = some (exo a C none) ∧ ∀ dx, H dx = none → dx ≠ a → Q .non (upd (upd (upd H dx (exd dx [(f1, v1)])) a (exo a C (some dx))) dx (exd dx [(f2, v2), (f1, v1)]))
theorem go_mkO2 {C : Addr} {f1 f2 : Str} {ta tb : TE} {σ : L2.St} {H : Hp} {Q : XK} {v1 v2 : V} (h1 : Ev ta σ H v1) (h2 : Ev tb σ H v2) (k : ∀ H1 d, Ex H H1 → H1 d = none → Q (.ref C) (some d) (upd H1 d (.xd [(f2, v2), (f1, v1)]))) : tMkO C (spErrI2 C f1 f2) [] (tCons ta (tCons tb tNil)) σ H Q :=
  h1 H (Ex.refl H) _ fun H0 e0 => h2 H0 e0 _ fun H1 e1 => ⟨by show 2 ≤ 1000; decide, fun a na => ⟨a, v1, v2, rfl, upd_same, fun dx ndx hda => ⟨rfl, dx, [(f2, v2), (f1, v1)], by rw [upd_ne hda.symm]; exact upd_same, upd_same, by rw [upd_ne hda] at ndx; exact ndx, by
    have hn : H1 dx = none := by rw [upd_ne hda] at ndx; exact ndx
    have e : upd (del (upd (upd (upd (upd H1 a (exo a C none)) dx (exd dx [(f1, v1)])) a (exo a C (some dx))) dx (exd dx [(f2, v2), (f1, v1)])) a) dx (.xd [(f2, v2), (f1, v1)]) = upd H1 dx (.xd [(f2, v2), (f1, v1)]) := by
      funext b
      by_cases hb : b = dx
      · subst hb
        rw [upd_same, upd_same]
      · rw [upd_ne hb, upd_ne hb]
        by_cases hba : b = a
        · subst hba
          rw [del_same, na]
        · rw [del_ne hba, upd_ne hb, upd_ne hba, upd_ne hb, upd_ne hba]
    rw [e]
    exact k H1 dx (Ex.trans e0 e1) hn⟩⟩⟩
end Lm

namespace Lm
open PySem PySem.Spec PyProof.Rows L2 Builtin PySem.HandSPX
/-! ### own errors made with keywords -/
section
variable {prog : Program} {w : World} {A : Around} {E : Value → Shared → Prop} {R : Result → Shared → Prop} {h : Heap} {g : Array GenState} {d : Drawn} {t : Nat} {os : OsState} {vs : List Value} {kw : List (Str × Value)}
variable {nm q : Str} {C N : Addr} {bs bm bmB : List Value} {hdct : Bool} {sn : List Str} {sub : List Value} {ab : Bool} {col : Option Bool} {dd : Option Addr} {k0 k1 k2 k3 k5 : Option Value} {B newId initId : String}
theorem exk_check {M : Model} (F : ExcBaseFacts B newId initId bmB) (hT : ∀ X : String, bm.contains (.type X) = bmB.contains (.type X)) {Q : Unit → Shared → Prop}
    (hC : h.get? C = some (excClassObj nm q C N bs bm hdct sn sub ab col dd k0 k1 k2 k3 k5 newId)) (hq : Q () ⟨h, g, d, t, os⟩) : wpAny M A (checkBuiltinCall newId ⟨.ref C :: vs, kw⟩) Q E ⟨h, g, d, t, os⟩ := by
  have fB : (Value.ref C :: bm).contains (.type B) = true := by rw [List.contains_cons, hT, F.hasB, Bool.or_true]
  have fS := F.noStar
  simp only [checkBuiltinCall, F.newKind, F.newSplit, F.newRow]
  repeat (first | with_reducible refine wpAny_loadPart_at hC ?_ | (with_reducible refine wpAny_isSubtype_exc hC ?_; rw [fB]) | with_reducible refine wpAny_staticBase_exc hC ?_ | with_reducible refine wpAny_madeBy_exc hC ?_ | simp only [bne_self_eq_false, Bool.false_eq_true, if_false] | wp_step)
  exact hq

theorem exk_new (F : ExcBaseFacts B newId initId bmB) (hT : ∀ X : String, bm.contains (.type X) = bmB.contains (.type X))
    (hC : h.get? C = some (excClassObj nm q C N bs bm hdct sn sub ab col dd k0 k1 k2 k3 k5 newId)) (hz : vs.length ≤ sizeLine)
    (hq : R (.ok (.ret (.ref (h.objs.size + 1)))) ⟨(h.push (PySem.W.kdv_tup vs)).push (excO C h.objs.size), g, d, t, os⟩) : codeAny (model prog w) A (.builtin newId ⟨.ref C :: vs, kw⟩) R ⟨h, g, d, t, os⟩ := by
  have fE := F.ends
  have fB : (Value.ref C :: bm).contains (.type B) = true := by rw [List.contains_cons, hT, F.hasB, Bool.or_true]
  have fA : (Value.ref C :: bm).contains (.type "AttributeError") = false := by rw [List.contains_cons, hT, F.noAttr]; rfl
  have fN : (Value.ref C :: bm).contains (.type "NameError") = false := by rw [List.contains_cons, hT, F.noName]; rfl
  refine codeAny_builtinAt F.entry ?_
  unfold Builtin.«BaseException.__new__»
  refine PySem.wpAt_bind ?_
  show PySem.wpAt _ _ _ (stack >>= _) _ _ _
  refine PySem.wpAt_bind (PySem.wpAt_stack fun _ _ => PySem.wpAt_of_wpAny ?_)
  wp_walk
  refine PySem.wpAt_of_wpAny ?_
  rw [F.owner]
  repeat (first | with_reducible refine wpAny_loadPart_at hC ?_ | (with_reducible refine wpAny_isSubtype_exc hC ?_; first | rw [fB] | rw [fA] | rw [fN]) | with_reducible refine wpAny_madeHere_exc F.canon hC ?_ | wp_step)
  show R _ _
  rw [Heap.size_push]
  exact hq
theorem exk_type (F : ExcBaseFacts B newId initId bmB) (hT : ∀ X : String, bm.contains (.type X) = bmB.contains (.type X)) {fI : Addr} {Q : Fin → Shared → Prop}
    (hC : h.get? C = some (excClassObj nm q C N bs bm hdct sn sub ab col dd k0 k1 k2 k3 k5 newId))
    (hi : PySem.W.Looks (model prog w) h (typeLookup (.ref C) "__init__") (some (.ref fI))) (hb : ∀ self, PySem.W.Looks (model prog w) h (bindSpecial (.ref fI) self) (.ref fI, [self])) (hz : vs.length ≤ sizeLine)
    (hq : codeAny (model prog w) A (.call (.ref fI) ⟨.ref (h.objs.size + 1) :: vs, kw⟩)
      (fun r s' => match r with | .ok (.ret v) => v = .none ∧ Q (.done (.ret (.ref (h.objs.size + 1)))) s' | .ok _ => False | .error e => E e s')
      ⟨(h.push (PySem.W.kdv_tup vs)).push (excO C h.objs.size), g, d, t, os⟩) :
    wpAny (model prog w) A (Builtin.«type.__call__» ⟨.ref C :: vs, kw⟩) Q E ⟨h, g, d, t, os⟩ := by
  repeat (first | with_reducible refine wpAny_madeBy_exc hC ?_ | with_reducible refine wpAny_loadPart_at hC ?_ | wp_step)
  refine codeAny_call_builtin_code (Code.quiet_builtin _ F.quiet) (exk_check F hT hC (exk_new F hT hC hz ?_))
  show wpAny _ _ _ _ _ _
  have kk : ∀ b o, h.get? b = some o → ((h.push (PySem.W.kdv_tup vs)).push (excO C h.objs.size)).get? b = some o := fun b o e => Heap.get?_push_of_some _ (Heap.get?_push_of_some _ e)
  have gC := kk _ _ hC
  have gE : ((h.push (PySem.W.kdv_tup vs)).push (excO C h.objs.size)).get? (h.objs.size + 1) = some (excO C h.objs.size) := by heap_get
  have cC : (Value.ref C :: bm).contains (.ref C) = true := by simp
  unfold isInstance
  repeat (first | with_reducible refine wpAny_loadPart_at gE ?_ | (with_reducible refine wpAny_isSubtype_exc gC ?_; rw [cC]) | wp_step)
  show wpAny _ _ (typeLookup (.ref C) _) _ _ _
  refine (hi.keeps kk).at (wpAny_holding (wpAny_bind (((hb (.ref (h.objs.size + 1))).keeps kk).at ?_)))
  refine wpAny_bind (wpAny_call (codeAny_mono hq fun r s' z => ?_))
  cases r with
  | error e => exact z
  | ok fl =>
    cases fl with
    | ret v =>
      obtain ⟨rfl, z⟩ := z
      first
        | exact wpAny_pure (wpAny_pure z)
        | (wp_walk; exact z)
    | next => exact z.elim
    | brk => exact z.elim
    | cont => exact z.elim
theorem exk_tc {M : Model} {Q : Unit → Shared → Prop} (hC : h.get? C = some (excClassObj nm q C N bs bm hdct sn sub ab col dd k0 k1 k2 k3 k5 newId)) (hq : Q () ⟨h, g, d, t, os⟩) :
    wpAny M A (checkBuiltinCall "type.__call__" ⟨.ref C :: vs, kw⟩) Q E ⟨h, g, d, t, os⟩ := by
  have f3 := tc_sub
  have hTy : (⟨h, g, d, t, os⟩ : Shared).TypeIs (.ref C) "type" := ⟨_, hC, rfl⟩
  simp only [checkBuiltinCall, tc_kind, tc_split]
  repeat (any_goals (first | assumption | with_reducible refine wpAny_onRaise ?_ | with_reducible refine wpAny_map ?_ | with_reducible refine wpAny_loadPart_at hC ?_ | wp_step))
theorem exk_call (F : ExcBaseFacts B newId initId bmB) (hT : ∀ X : String, bm.contains (.type X) = bmB.contains (.type X)) {fI : Addr}
    (hC : h.get? C = some (excClassObj nm q C N bs bm hdct sn sub ab col dd k0 k1 k2 k3 k5 newId))
    (hi : PySem.W.Looks (model prog w) h (typeLookup (.ref C) "__init__") (some (.ref fI))) (hb : ∀ self, PySem.W.Looks (model prog w) h (bindSpecial (.ref fI) self) (.ref fI, [self])) (hz : vs.length ≤ sizeLine)
    (hq : codeAny (model prog w) (A.under (.builtin "type.__call__" ⟨.ref C :: vs, kw⟩)) (.call (.ref fI) ⟨.ref (h.objs.size + 1) :: vs, kw⟩) (PySem.W.InitBack (h.objs.size + 1) R)
      ⟨(h.push (PySem.W.kdv_tup vs)).push (excO C h.objs.size), g, d, t, os⟩) :
    codeAny (model prog w) A (.call (.ref C) ⟨vs, kw⟩) R ⟨h, g, d, t, os⟩ := by
  have f1 := tc_lookup
  have f2 := tc_bind (.ref C)
  have hTy : (⟨h, g, d, t, os⟩ : Shared).TypeIs (.ref C) "type" := ⟨_, hC, rfl⟩
  refine codeAny_of_tree ?_
  show wpAny _ _ (callAny (.ref C) _) _ _ _
  repeat (any_goals (first | assumption | with_reducible refine wpAny_loadPart_at hC ?_ | wp_step))
  refine ⟨rfl, codeAny_call_builtin_at (Code.quiet_builtin _ (by decide +kernel)) entry_typeCall (exk_tc hC (exk_type F hT hC hi hb hz (codeAny_mono hq fun r s' z => ?_)))⟩
  rcases r with e | (v | _ | _ | _) <;> exact z
end
end Lm

namespace Lm
open PySem L2 PySem.Spec PyProof.Rows Evl
/-! ### own errors held as values -/
/-- C(e, ..), the new error stays -/
def tErV (C : Addr) (sp : Sp) (ta : TA) : TE := fun σ H Q => ta σ H fun vs H1 => vs.length ≤ 1000 ∧ ∀ a, H1 a = none → sp (.ref a :: vs) (upd H1 a (exo a C none)) (fun v H2 => v = .non ∧ Q (.ref a) H2) (fun _ _ _ => False)
/-- C(k = e, ..) -/
def tErVK (C : Addr) (n : Nat) (sp : Sp) (gV : List V → List V → List V) (tk : TA) : TE := fun σ H Q => tk σ H fun zs H1 => zs.length = n ∧ ∀ a, H1 a = none → sp (gV [.ref a] zs) (upd H1 a (exo a C none)) (fun v H2 => v = .non ∧ Q (.ref a) H2) (fun _ _ _ => False)
/-- what the text says of an own error with an own __init__ -/
structure ErrV (P : Program) (w : World) (K : PySem.W.Frag) (mg : Str → Option Value) (base : Heap) (k : Nat) (x : Str) (C fI : Addr) (fd : FuncData) (ps : List Str) (sp : Sp) : Prop where
  T : OexC K C
  ini : PySem.W.findIn K (.ref C) "__init__" = some (some (.ref fI))
  ty : PySem.W.typeIn K (.ref fI) = some (.type "function")
  ok : FnOk P w K mg base CX0 k fI fd ps sp
  bd : Binds K fd ps []
  g : mg x = some (.ref C)
section
variable {X : Cx} {C fI : Addr} {k : Nat} {fd : FuncData} {ps ks : List Str} {sp : Sp} {x : Str} {p pos : Pos} {e : Expr} {es : List Expr} {kws : List Keyword} {ta tk : TA} {g : List Value → List Value → List Value} {gV : List V → List V → List V}
theorem exk_laid {pins : List (Addr × Obj)} {σ : L2.St} {H1 : Hp} {hp : Heap} {gs : Array GenState} {dr : Drawn} {tk : Nat} {os : OsState} (I1 : Inv X pins σ H1 ⟨hp, gs, dr, tk, os⟩) (us : List Value) :
    Inv X pins σ (upd H1 (hp.objs.size + 1) (exo (hp.objs.size + 1) C none)) ⟨(hp.push (PySem.W.kdv_tup us)).push (PySem.HandSPX.excO C hp.objs.size), gs, dr, tk, os⟩ := by
  have hget : ((hp.push (PySem.W.kdv_tup us)).push (PySem.HandSPX.excO C hp.objs.size)).get? (hp.objs.size + 1) = some (PySem.HandSPX.excO C hp.objs.size) := by heap_get
  exact I1.laid (t' := tk) (a := hp.objs.size + 1) (o := exo (hp.objs.size + 1) C none) (h' := (hp.push (PySem.W.kdv_tup us)).push (PySem.HandSPX.excO C hp.objs.size)) (fun b o e => Heap.get?_push_of_some _ (Heap.get?_push_of_some _ e)) (Nat.le_succ _) (exo_ok hget)
theorem pe_erV (D : ErrV X.prog X.w X.K X.mg X.base k x C fI fd ps sp) (hr : Room (k + 1) X.A) (ha : PA X (e :: es) ta) (hg : Gl X x := by rfl)
    (hdb : (x == ("__debug__" : Str)) = false := by decide) (he : starEach (e :: es) X.env = (false, eval e X.env) :: starEach es X.env := by rfl) (hpl : (backTo pos (starEach es X.env)).any (·.1) = false := by rfl) :
    PE X (.Call (.Name x p) (e :: es) [] pos) (tErV C sp ta) := by
  refine ⟨fun pins s σ H Q I h => ?_⟩
  obtain ⟨nm, q, N, bs, bm, sn, sub, ab, col, dd, k0, k1, k2, k3, k5, hC, hbm⟩ := D.T.cls
  refine wpAny_Call_Name_kw (ld_glob I hg D.g ?_ hdb)
  refine PySem.W.callWith_K (h₀ := X.base) I.ok.mod.kin D.T.kC (thn (ha.run pos pins s σ H _ I h) fun us s1 ⟨vs, H1, I1, r1, hz, q1⟩ => ⟨I1.kIn, ?_⟩) he hpl
  show wpAny _ _ (call (.ref C) us) _ _ _
  obtain ⟨hp, gs, dr, tk, os⟩ := s1
  have hq := q1 (hp.objs.size + 1) (I1.hok.fresh (Nat.le_succ _))
  have I2 := exk_laid (C := C) I1 us
  have r2 : Vals (V.ref (hp.objs.size + 1) :: vs) (Value.ref (hp.objs.size + 1) :: us) := .cons rfl r1
  have hl : (Value.ref (hp.objs.size + 1) :: us).length = ps.length := r2.length.symm.trans (D.ok.len _ _ _ _ hq)
  have hus : us.length ≤ sizeLine := by
    rw [← Paired.length r1, sizeLine_eq]
    omega
  have hbd := D.bd _ (Value.ref (hp.objs.size + 1) :: us) I2.kIn (by simpa using hl)
  rw [List.append_nil] at hbd
  refine wpAny_call (exk_call F.excBase_ValueError (fun Y => PySem.HandSPX.refsVE_contains Y bm hbm) (I1.kIn _ _ hC) (PySem.W.looks_findIn I1.kIn D.ini) (fun self => PySem.W.bind_fn I1.kIn self D.ty) hus
    (codeAny_mono (D.ok.run _ X.stack _ _ ⟨Value.ref (hp.objs.size + 1) :: us, []⟩ (Value.ref (hp.objs.size + 1) :: us) _ _ (fun _ _ _ => False) (hr.make C us []) (I2.env0.make C us []) hbd r2 hq) fun r s' hq' => ?_))
  cases r with
  | error er => exact L2.pass0 pins σ _ _ er s' I2 hq'
  | ok fl =>
    cases fl with
    | ret u =>
      obtain ⟨v, H', I3, rv, ev, q3⟩ := I2.after hq'
      subst ev
      exact ⟨rv, ⟨V.ref (hp.objs.size + 1), H', I3, rfl, q3⟩⟩
    | next => exact False.elim hq'
    | brk => exact False.elim hq'
    | cont => exact False.elim hq'
theorem pe_erVK (D : ErrV X.prog X.w X.K X.mg X.base k x C fI fd ps sp) (hb : KBn X.K fd ps 1 ks g gV) (hr : Room (k + 1) X.A) (hkw : PK X kws tk) (hkl : ks.length ≤ 100) (hg : Gl X x := by rfl) (hdb : (x == ("__debug__" : Str)) = false := by decide)
    (hall : (backToKw pos (keywordEach kws X.env)).all (·.1.isSome) = true := by rfl) (hks : (backToKw pos (keywordEach kws X.env)).filterMap (·.1) = ks := by rfl)
    (hpl : ((backTo pos (starEach [] X.env)).any (·.1) || (backToKw pos (keywordEach kws X.env)).any (·.1.isNone)) = false := by rfl) :
    PE X (.Call (.Name x p) [] kws pos) (tErVK C ks.length sp gV tk) := by
  refine ⟨fun pins s σ H Q I h => ?_⟩
  obtain ⟨nm, q, N, bs, bm, sn, sub, ab, col, dd, k0, k1, k2, k3, k5, hC, hbm⟩ := D.T.cls
  refine wpAny_Call_Name_kw (ld_glob I hg D.g ?_ hdb)
  refine PySem.W.callWith_KW0 (h₀ := X.base) I.ok.mod.kin D.T.kC hall ?_ hpl
  refine thn (hkw.run pos pins s σ H _ I h) fun ws s1 ⟨zs, H1, I1, rz, l2, q1⟩ => ⟨I1.kIn, ?_⟩
  rw [hks]
  obtain ⟨hp, gs, dr, tt, os⟩ := s1
  have hq := q1 (hp.objs.size + 1) (I1.hok.fresh (Nat.le_succ _))
  have I2 := exk_laid (C := C) I1 []
  have r1 : Vals [V.ref (hp.objs.size + 1)] [Value.ref (hp.objs.size + 1)] := .cons rfl .nil
  have hwl : ws.length = ks.length := rz.length.symm.trans l2
  have hq0 : sp (gV [.ref (hp.objs.size + 1)] zs) _ _ _ := hq
  refine wpAny_call (exk_call F.excBase_ValueError (fun Y => PySem.HandSPX.refsVE_contains Y bm hbm) (I1.kIn _ _ hC) (PySem.W.looks_findIn I1.kIn D.ini) (fun self => PySem.W.bind_fn I1.kIn self D.ty) (Nat.zero_le _)
    (codeAny_mono (D.ok.run _ X.stack _ _ ⟨[Value.ref (hp.objs.size + 1)], ks.zip ws⟩ (g [Value.ref (hp.objs.size + 1)] ws) _ _ (fun _ _ _ => False) (hr.make C [] (ks.zip ws)) (I2.env0.make C [] (ks.zip ws)) (hb.to _ [Value.ref (hp.objs.size + 1)] ws I2.kIn rfl hwl) (hb.rel r1 rz) hq0) fun r s' hq' => ?_))
  cases r with
  | error er => exact L2.pass0 pins σ _ _ er s' I2 hq'
  | ok fl =>
    cases fl with
    | ret u =>
      obtain ⟨v, H', I3, rv, ev, q3⟩ := I2.after hq'
      subst ev
      exact ⟨rv, ⟨V.ref (hp.objs.size + 1), H', I3, rfl, q3⟩⟩
    | next => exact False.elim hq'
    | brk => exact False.elim hq'
    | cont => exact False.elim hq'
end
/-- C(), no own __init__ -/
def tEr0 (C : Addr) : TE := fun _ H Q => ∀ a, H a = none → Q (.ref a) (upd H a (exo a C none))
section
variable {X : Cx} {C : Addr} {x : Str} {p pos : Pos}
theorem pe_er0 (T : ErrTxt X.K X.mg x C) (hg : Gl X x := by rfl) (hdb : (x == ("__debug__" : Str)) = false := by decide) : PE X (.Call (.Name x p) [] [] pos) (tEr0 C) := by
  refine ⟨fun pins s σ H Q I h => ?_⟩
  refine wpAny_Call_Name_kw (ld_glob I hg T.g ?_ hdb)
  refine PySem.W.callWith_K0 (first := []) I.kIn T.kp ?_
  show wpAny _ _ (call (.ref C) []) _ _ _
  obtain ⟨bm, N, nm, qn, bs, hdct, sn, sub, ab, col, dd, k0, k1, k2, k3, k5, mN, hC, hN, hni, U⟩ := exc_obj I.kIn T.xi
  refine wpAny_call_exc_subT PySem.F.excBase_ValueError U hC hN hni (fun h' e hm => ?_) (Nat.zero_le _)
  obtain ⟨t, ht, _, _⟩ := hm.there
  have hn : H e = none := I.hok.gone hm.new
  exact ⟨.ref e, upd H e (exo e C none), I.laidN hm.keeps hm.new hn (exo_ok ht), rfl, h e hn⟩
end
/-- e.f, e an error that keeps f -/
def tXv (K : PySem.W.Frag) (f : Str) (te : TE) : TE := fun σ H Q => te σ H fun x H1 => ∃ (a C d : Addr) (fs : List (Str × V)) (v : V), x = .ref a ∧ XfC K C ∧ PySem.W.findIn K (.ref C) f = some none ∧ H1 a = some (exo a C (some d)) ∧ H1 d = some (exd d fs) ∧ fs.lookup f = some v ∧ Q v H1
theorem pe_xv {X : Cx} {e : Expr} {te : TE} {pos : Pos} {n : Str} (he : PE X e te) (hb : attributeBase e n X.env (eval e X.env) = eval e X.env := by rfl) : PE X (.Attribute e n pos) (tXv X.K n te) := by
  refine ⟨fun pins s σ H Q I h => ?_⟩
  refine attr_of hb (thn (he.run pins s σ H _ I h) fun u s1 hh => ?_)
  obtain ⟨x, H1, I1, rx, a, C, d, fs, v, ex, T, hno, ea, ed, l, q⟩ := hh
  subst ex
  obtain rfl : u = Value.ref a := rx
  obtain ⟨t1, ha⟩ := exo_at I1.hok ea
  obtain ⟨mA, hns, hr⟩ := exd_at I1.hok ed
  obtain ⟨od, ho, hl⟩ := lookIn_ns hns
  obtain ⟨u, hu, ru⟩ := RelO.some_of (v := v) (o := mA n) (by rw [← l]; exact hr n)
  have J : PySem.W.InstAt s1.heap a _ C (some od) := ⟨ha, rfl, rfl, ho⟩
  exact HandSPX.exc_get I1.kIn J T.ga T.gg T.exC (PySem.W.findObj_own T.hdC hno rfl (by rw [hl, hu])) (handed_of ru) ⟨v, H1, I1.tok _, ru, q⟩
/-! ### isinstance of such an error -/
structure ErrIs (K : PySem.W.Frag) (C : Addr) : Prop where
  cl : (PySem.W.clsIn K C).isSome = true
  ga : PySem.W.findIn K (.ref C) "__getattribute__" = some (some (.builtin "BaseException.__getattribute__"))
  gg : PySem.W.findIn K (.ref C) "__getattr__" = some none
  ex : PySem.W.subIn K (.ref C) (.type "BaseException") = some true
  ca : PySem.W.findIn K (.ref C) "__class__" = some (some (.builtin "object.__class__"))
  ge : PySem.W.specialIn K (.builtin "object.__class__") "__get__" = some (some (.builtin "getset_descriptor.__get__"))
  tk : PySem.W.takesIn K (.builtin "object.__class__") = some true
  ob : PySem.W.mroIn K C (.type "object") = some true
/-- an error, with its dict or without -/
def ExAt (H : Hp) (a C : Addr) : Prop := H a = some (exo a C none) ∨ ∃ d fs, H a = some (exo a C (some d)) ∧ H d = some (exd d fs)
def rIsX (K : PySem.W.Frag) : List V → Hp → VK → Prop := fun xs H Q => ∃ (a C : Addr) (c : V) (u : Value) (b : Bool), xs = [.ref a, c] ∧ ClsV c u ∧ ErrIs K C ∧ ExAt H a C ∧ PySem.W.kitOne K (.ref C) u = some b ∧ Q (.bl b) H
theorem call_isX {X : Cx} : CallR X (.builtin "isinstance") (rIsX X.K) := by
  intro pins s σ H xs us Q I r h
  obtain ⟨a, C, c, u, b, rfl, k, T, ea, e, q⟩ := h
  obtain ⟨u1, u2, rfl, r1, r2⟩ := vals2 r
  obtain rfl : u1 = Value.ref a := r1
  have e2 := k.eq r2
  subst e2
  rcases ea with ea | ⟨d, fs, ea, ed⟩
  · obtain ⟨t1, ha⟩ := exo_at I.hok ea
    have J : PySem.W.InstAt s.heap a _ C none := ⟨ha, rfl, rfl, trivial⟩
    exact PySem.W.kia_one (PySem.W.kitx_exc T.cl T.ga T.gg T.ex T.ca T.ge T.tk T.ob) I.kIn J e (fun z => nomatch z) fun tk => ⟨.bl b, H, I.tok tk, rfl, q⟩
  · obtain ⟨t1, ha⟩ := exo_at I.hok ea
    obtain ⟨mA, hns, hr⟩ := exd_at I.hok ed
    obtain ⟨od, ho, hl⟩ := lookIn_ns hns
    have J : PySem.W.InstAt s.heap a _ C (some od) := ⟨ha, rfl, rfl, ho⟩
    exact PySem.W.kia_one (PySem.W.kitx_exc T.cl T.ga T.gg T.ex T.ca T.ge T.tk T.ob) I.kIn J e (fun z => nomatch z) fun tk => ⟨.bl b, H, I.tok tk, rfl, q⟩
/-! ### a dict is equal to itself -/
theorem kv_keys {κ : Type} {ks : List (κ × V)} {va : List (κ × Value)} (r : KV ks va) : ks.map (·.1) = va.map (·.1) := by
  unfold KV at r
  induction r with
  | nil => rfl
  | cons h t ih => rw [List.map_cons, List.map_cons, h.1, ih]
theorem hits_self {P : Program} {w : World} {A : Around} {s : Shared} {va : List (Key × Value)} (nd : (va.map (·.1)).Nodup) : ∀ r : List (Key × Value), (∀ p ∈ r, p ∈ va) → PySem.W.KeqHitsIn P w A s va r true
  | [], _ => .nil
  | (k, v) :: r, h => by
    have e : PySem.W.KeqHitsIn P w A s va ((k, v) :: r) (true && true) := .hit (PySem.valueAt_of_mem nd (h _ List.mem_cons_self)) ((PySem.SeqAt.EqAt.same _).inModel P w) (hits_self nd r fun p hp => h p (List.mem_cons_of_mem _ hp))
    exact e
def rEqSelf : R2 := fun x y H Q => ∃ a ks, x = .ref a ∧ y = .ref a ∧ H a = some (.dK ks) ∧ (ks.map (·.1)).Nodup ∧ Q (.bl true) H
theorem op_eqSelf {X : Cx} (hu : X.A.units + 1 < cLine) : OpR X (compareOp .Eq) rEqSelf := by
  intro pins s σ H x y v u Q I rx ry h
  obtain ⟨a, ks, rfl, rfl, ea, nd, q⟩ := h
  obtain rfl : v = Value.ref a := rx
  obtain rfl : u = Value.ref a := ry
  obtain ⟨_, ya, va, ra, da⟩ := (show ObjOk X.prog X.w H s.heap a (.dK ks) from I.hok a _ ea)
  have nd2 : (va.map (·.1)).Nodup := by rw [← kv_keys ra]; exact nd
  exact PySem.W.keq_eqIn (knd := mixKind X.prog X.w) (r := true) ya ya da da (by omega) (fun _ => hits_self nd2 va fun p hp => hp) (fin_bl I q (by simp))
end Lm

namespace Lm
open PySem L2 TL
/-! ### texts, their lines and words -/
theorem tl_sp : tl (" " : Str) = [32] := by decide +kernel
theorem tl_nl : tl ("\n" : Str) = [10] := by decide +kernel
theorem spl1_hit (s : Nat) (acc r : List Nat) : spl [s] 0 acc (s :: r) = acc :: spl [s] 0 [] r := by rw [spl_hit (by simp [pre])]; simp
theorem spl1_miss {s c : Nat} (h : c ≠ s) (acc r : List Nat) : spl [s] 0 acc (c :: r) = spl [s] 0 (acc ++ [c]) r := spl_miss (by simp [pre, h])
theorem spl1_ne (s : Nat) : ∀ (l acc : List Nat), spl [s] 0 acc l ≠ []
  | [], acc => by rw [spl_nil]; simp
  | c :: r, acc => by
    by_cases h : c = s
    · subst h; rw [spl1_hit]; simp
    · rw [spl1_miss h]; exact spl1_ne s r _
theorem spl1_free (s : Nat) : ∀ (l acc : List Nat), s ∉ acc → ∀ p ∈ spl [s] 0 acc l, s ∉ p
  | [], acc, h, p, hp => by rw [spl_nil, List.mem_singleton] at hp; rw [hp]; exact h
  | c :: r, acc, h, p, hp => by
    by_cases q : c = s
    · subst q
      rw [spl1_hit] at hp
      rcases List.mem_cons.mp hp with e | hp
      · rw [e]; exact h
      · exact spl1_free c r [] (by simp) p hp
    · rw [spl1_miss q] at hp
      refine spl1_free s r (acc ++ [c]) (fun z => ?_) p hp
      rcases List.mem_append.mp z with z | z
      · exact h z
      · exact q (List.mem_singleton.mp z).symm
theorem joinL_cons {S p : List Nat} {r : List (List Nat)} (h : r ≠ []) : joinL S (p :: r) = p ++ (S ++ joinL S r) := by
  cases r with
  | nil => exact absurd rfl h
  | cons a b => rfl
theorem joinL_spl (s : Nat) : ∀ l acc : List Nat, joinL [s] (spl [s] 0 acc l) = acc ++ l
  | [], acc => by rw [spl_nil]; show acc = acc ++ []; simp
  | c :: r, acc => by
    by_cases h : c = s
    · subst h
      rw [spl1_hit, joinL_cons (spl1_ne _ _ _), joinL_spl c r []]
      simp
    · rw [spl1_miss h, joinL_spl s r]
      simp
theorem spl1_len (s : Nat) (l : List Nat) : ∀ p ∈ spl [s] 0 [] l, p.length ≤ l.length := by
  have key : ∀ (r : List (List Nat)), ∀ p ∈ r, p.length ≤ (joinL [s] r).length := by
    intro r
    induction r with
    | nil => intro p hp; cases hp
    | cons a b ih =>
      intro p hp
      by_cases hb : b = []
      · subst hb
        rw [List.mem_singleton.mp hp]
        exact Nat.le_refl _
      · rw [joinL_cons hb]
        simp only [List.length_append]
        rcases List.mem_cons.mp hp with e | hp
        · rw [e]; omega
        · have := ih p hp; omega
  intro p hp
  have := key _ p hp
  rw [joinL_spl] at this
  simpa using this
theorem spl1_count (s : Nat) : ∀ l acc : List Nat, (spl [s] 0 acc l).length ≤ l.length + 1
  | [], acc => by rw [spl_nil]; simp
  | c :: r, acc => by
    by_cases h : c = s
    · subst h; rw [spl1_hit]; have := spl1_count c r []; simp; omega
    · rw [spl1_miss h]; have := spl1_count s r (acc ++ [c]); simp; omega
def wordsOf (l : Str) : List Str := Txt.split l " "
def linesOf (x : Str) : List Str := Txt.split x "\n"
theorem words_tl' (l : Str) : (wordsOf l).map tl = spl [32] 0 [] (tl l) := by
  have := split_spl l " " (by rw [tl_sp]; simp) (kind_ok (by decide +kernel))
  rw [tl_sp] at this
  exact this
theorem lines_tl (l : Str) : (linesOf l).map tl = spl [10] 0 [] (tl l) := by
  have := split_spl l "\n" (by rw [tl_nl]; simp) (kind_ok (by decide +kernel))
  rw [tl_nl] at this
  exact this
theorem words_ne (l : Str) : wordsOf l ≠ [] := fun z => by have := words_tl' l; rw [z] at this; exact spl1_ne _ _ _ this.symm
theorem lines_ne (l : Str) : linesOf l ≠ [] := fun z => by have := lines_tl l; rw [z] at this; exact spl1_ne _ _ _ this.symm
theorem words_free (l : Str) : ∀ p ∈ wordsOf l, 32 ∉ tl p := fun p hp => spl1_free 32 (tl l) [] (by simp) _ (by rw [← words_tl']; exact List.mem_map_of_mem hp)
theorem lines_free (l : Str) : ∀ p ∈ linesOf l, 10 ∉ tl p := fun p hp => spl1_free 10 (tl l) [] (by simp) _ (by rw [← lines_tl]; exact List.mem_map_of_mem hp)
theorem words_len (l : Str) : ∀ p ∈ wordsOf l, p.length ≤ l.length := fun p hp => by
  rw [len_tl, len_tl]
  exact spl1_len 32 (tl l) _ (by rw [← words_tl']; exact List.mem_map_of_mem hp)
theorem lines_len (l : Str) : ∀ p ∈ linesOf l, p.length ≤ l.length := fun p hp => by
  rw [len_tl, len_tl]
  exact spl1_len 10 (tl l) _ (by rw [← lines_tl]; exact List.mem_map_of_mem hp)
theorem words_count (l : Str) : (wordsOf l).length ≤ l.length + 1 := by
  have := spl1_count 32 (tl l) []
  rw [← words_tl', List.length_map, ← len_tl] at this
  exact this
theorem lines_count (l : Str) : (linesOf l).length ≤ l.length + 1 := by
  have := spl1_count 10 (tl l) []
  rw [← lines_tl, List.length_map, ← len_tl] at this
  exact this
theorem join_words (l : Str) : Txt.join " " (wordsOf l) = l := by
  refine ext_tl ?_
  rw [join_eq, tl_join, words_tl', tl_sp, joinL_spl]
  rfl
theorem join_lines (l : Str) : Txt.join "\n" (linesOf l) = l := by
  refine ext_tl ?_
  rw [join_eq, tl_join, lines_tl, tl_nl, joinL_spl]
  rfl
theorem words_join {ps : List Str} (h : ps ≠ []) (hp : ∀ p ∈ ps, 32 ∉ tl p) : wordsOf (Txt.join " " ps) = ps := split_join tl_sp (by decide +kernel) h hp
theorem lines_join {ps : List Str} (h : ps ≠ []) (hp : ∀ p ∈ ps, 10 ∉ tl p) : linesOf (Txt.join "\n" ps) = ps := split_join tl_nl (by decide +kernel) h hp
/-! ### numbers -/
def dstr (n : Nat) : Str := Str.ofString (toString ((n : Nat) : Int))
theorem tl_dstr (n : Nat) : tl (dstr n) = numL n := tl_num n
def isFig (w : Str) : Bool := !decide (w = "") && (tl w).all fun c => decide (48 ≤ c ∧ c ≤ 57)
def valOf (w : Str) : Nat := NumText.digitsVal (tl w)
theorem isFig_digits {w : Str} (h : isFig w = true) : NumText.AllDigits (tl w) ∧ tl w ≠ [] := by
  unfold isFig at h
  rw [Bool.and_eq_true] at h
  refine ⟨fun c hc => of_decide_eq_true (List.all_eq_true.mp h.2 c hc), fun z => ?_⟩
  have : w = "" := ext_tl (by rw [z]; decide +kernel)
  rw [this] at h
  simp at h
theorem int_fig {w : Str} (h : isFig w = true) (hl : w.length ≤ 4300) : PySem.intText? w = some ((valOf w : Nat) : Int) := intText_digits (isFig_digits h).1 (isFig_digits h).2 hl
def canon (w : Str) : Bool := isFig w && decide (w = dstr (valOf w))
theorem isFig_dstr (n : Nat) : isFig (dstr n) = true := by
  unfold isFig
  rw [tl_dstr, Bool.and_eq_true]
  refine ⟨?_, List.all_eq_true.mpr fun c hc => decide_eq_true (numL_digits n c hc)⟩
  rw [Bool.not_eq_true', decide_eq_false_iff_not]
  intro z
  have := congrArg tl z
  rw [tl_dstr] at this
  exact numL_ne n (this.trans (by decide +kernel))
theorem valOf_dstr (n : Nat) : valOf (dstr n) = n := by unfold valOf; rw [tl_dstr]; exact numL_val n
theorem canon_dstr (n : Nat) : canon (dstr n) = true := by unfold canon; rw [isFig_dstr, valOf_dstr]; simp
theorem digits_lt : ∀ (l : List Nat) (a : Nat), NumText.AllDigits l → l.foldl (fun acc c => acc * 10 + (c - 48)) a < (a + 1) * 10 ^ l.length
  | [], a, _ => by simp
  | c :: r, a, h => by
    rw [List.foldl_cons, List.length_cons, Nat.pow_succ]
    have h1 := digits_lt r (a * 10 + (c - 48)) h.tail
    have h2 := h.head
    refine Nat.lt_of_lt_of_le h1 ?_
    have : a * 10 + (c - 48) + 1 ≤ (a + 1) * 10 := by omega
    calc (a * 10 + (c - 48) + 1) * 10 ^ r.length ≤ ((a + 1) * 10) * 10 ^ r.length := Nat.mul_le_mul_right _ this
      _ = (a + 1) * (10 ^ r.length * 10) := by rw [Nat.mul_assoc, Nat.mul_comm 10]
theorem valOf_lt {w : Str} (h : NumText.AllDigits (tl w)) : valOf w < 10 ^ w.length := by
  have := digits_lt (tl w) 0 h
  unfold valOf NumText.digitsVal
  rw [len_tl]
  simpa using this
/-! ### deeds and their lines -/
def kindsS : List Str := ["read", "jump", "anew", "give", "take"]
def leadS : List Str := ["read", "jump"]
def cntOf (k : Str) : Nat := if k ∈ leadS then 2 else 1
abbrev Deed := Str × List Nat
def lineOf (d : Deed) : Str := Txt.join " " (d.1 :: d.2.map dstr) ++ "\n"
/-- what the words of a line tell, if they tell a deed -/
def deedW : List Str → Option Deed
  | [] => none
  | k :: fs => if k ∈ kindsS ∧ fs.length = cntOf k ∧ fs.all canon = true ∧ (fs.map valOf).headD 3 < 3 then some (k, fs.map valOf) else none
def deedL (l : Str) : Option Deed := deedW (wordsOf l)
theorem kinds_free : ∀ k ∈ kindsS, 32 ∉ tl k ∧ 10 ∉ tl k := by decide +kernel
theorem dstr_free (n : Nat) : 32 ∉ tl (dstr n) ∧ 10 ∉ tl (dstr n) := by rw [tl_dstr]; exact ⟨numL_free (.inl (by decide)), numL_free (.inl (by decide))⟩
theorem tl_app (x y : Str) : tl (x ++ y) = tl x ++ tl y := tl_append x y
theorem app_nl_inj {x y : Str} (h : x ++ "\n" = y ++ "\n") : x = y := by
  have := congrArg tl h
  rw [tl_app, tl_app] at this
  exact ext_tl (List.append_cancel_right this)
/-- a line is written as it was read just if its numbers are -/
theorem line_iff {l k : Str} {fs : List Str} (hw : wordsOf l = k :: fs) (hk : k ∈ kindsS) : lineOf (k, fs.map valOf) = l ++ "\n" ↔ ∀ w ∈ fs, w = dstr (valOf w) := by
  have hj := join_words l
  rw [hw] at hj
  constructor
  · intro h
    have h1 : Txt.join " " (k :: (fs.map valOf).map dstr) = l := app_nl_inj h
    have h2 := words_join (ps := k :: (fs.map valOf).map dstr) (by simp) (fun p hp => by
      rcases List.mem_cons.mp hp with e | hp
      · rw [e]; exact (kinds_free k hk).1
      · obtain ⟨n, _, rfl⟩ := List.mem_map.mp hp
        exact (dstr_free n).1)
    rw [h1, hw] at h2
    have h3 := (List.cons.inj h2).2
    rw [List.map_map] at h3
    intro w hw'
    obtain ⟨i, hi⟩ := List.mem_iff_getElem?.mp hw'
    have h4 := congrArg (fun z => z[i]?) h3
    simp only [List.getElem?_map, hi] at h4
    exact Option.some.inj h4
  · intro h
    show Txt.join " " (k :: (fs.map valOf).map dstr) ++ "\n" = l ++ "\n"
    have : (fs.map valOf).map dstr = fs := by
      rw [List.map_map]
      refine (List.map_congr_left fun w hw' => ?_).trans (List.map_id fs)
      exact (h w hw').symm
    rw [this, hj]
theorem line_ne {l k : Str} {ns : List Nat} (h : 10 ∉ tl l) : lineOf (k, ns) ≠ l := fun z => by
  have := congrArg tl z
  unfold lineOf at this
  rw [tl_app, tl_nl] at this
  exact h (by rw [← this]; simp)
theorem stripLo_no (g : Nat → Bool) (x : Str) : PySem.stripLo g false x = 0 := rfl
theorem nl_has (c : Nat) : ("\n" : Str).cps.contains c = decide (c = 10) := by
  have e : ("\n" : Str).cps = #[10] := by decide +kernel
  rw [e]
  by_cases h : c = 10 <;> simp [h]
theorem cps_at {x : Str} {i : Nat} (h : i < (tl x).length) : x.cps.getD i 0 = (tl x)[i] := by
  rw [← PyProof.Rows.getD_list, List.getD_eq_getElem?_getD, List.getElem?_eq_getElem h]
  rfl
theorem rstrip_cut (l : List Nat) (m : List Nat) (h : 10 ∉ l) (hm : ∀ c ∈ m, c = 10) (x : Str) (hx : tl x = l ++ m) : tl (Txt.rstripChars x "\n") = l := by
  unfold Txt.rstripChars
  rw [PyProof.Rows.stripBy_eq, stripLo_no, tl_strSub]
  obtain ⟨h1, h2, h3, h4⟩ := PyProof.Rows.hi_facts ("\n" : Str).cps.contains x 0 (Nat.zero_le _)
  generalize PySem.stripHi ("\n" : Str).cps.contains true x 0 = hi at h1 h2 h3 h4
  rw [len_tl] at h2
  have hlen : (tl x).length = l.length + m.length := by rw [hx, List.length_append]
  have e : hi = l.length := by
    rcases Nat.lt_trichotomy hi l.length with q | q | q
    · -- the sign at hi is struck, so it is 10
      have hlt : hi < (tl x).length := by omega
      have := h3 hi (Nat.le_refl _) (by rw [len_tl]; exact hlt)
      rw [cps_at hlt, nl_has] at this
      have e10 := of_decide_eq_true this
      have : (tl x)[hi]'hlt = l[hi] := by
        simp only [hx]
        exact List.getElem_append_left q
      rw [this] at e10
      exact absurd (e10 ▸ List.getElem_mem q) h
    · exact q
    · rcases h4 with h4 | h4
      · omega
      · have hlt : hi - 1 < (tl x).length := by omega
        rw [cps_at hlt, nl_has] at h4
        have e10 := of_decide_eq_false h4
        refine absurd (hm _ ?_) e10
        have : (tl x)[hi - 1]'hlt = m[hi - 1 - l.length]'(by omega) := by
          simp only [hx]
          exact List.getElem_append_right (by omega)
        rw [this]
        exact List.getElem_mem _
  rw [e, hx]
  simp
theorem rstrip_nl {l : Str} (h : 10 ∉ tl l) : Txt.rstripChars (l ++ "\n") "\n" = l := ext_tl (rstrip_cut (tl l) [10] h (by simp) _ (by rw [tl_app, tl_nl]))
theorem rstrip_free {l : Str} (h : 10 ∉ tl l) : Txt.rstripChars l "\n" = l := ext_tl (rstrip_cut (tl l) [] h (by simp) _ (by simp))
/-- deeds that have lines -/
structure DeedOk (d : Deed) : Prop where
  k : d.1 ∈ kindsS
  n : d.2.length = cntOf d.1
  d : d.2.headD 3 < 3
theorem deedL_line {d : Deed} (h : DeedOk d) : deedL (Txt.join " " (d.1 :: d.2.map dstr)) = some d := by
  obtain ⟨k, ns⟩ := d
  unfold deedL
  rw [words_join (by simp) (fun p hp => by
    rcases List.mem_cons.mp hp with e | hp
    · rw [e]; exact (kinds_free k h.k).1
    · obtain ⟨n, _, rfl⟩ := List.mem_map.mp hp
      exact (dstr_free n).1)]
  have e : (ns.map dstr).map valOf = ns := by
    rw [List.map_map]
    exact (List.map_congr_left fun n _ => valOf_dstr n).trans (List.map_id ns)
  show (if _ then _ else _) = _
  rw [if_pos ⟨h.k, by rw [List.length_map]; exact h.n, List.all_eq_true.mpr fun w hw => by
    obtain ⟨n, _, rfl⟩ := List.mem_map.mp hw
    exact canon_dstr n, by rw [e]; exact h.d⟩, e]
end Lm

namespace Lm
open PySem L2
/-! ### editions as truths over the numbers of the passages -/
def idx (N : Nat) (S : Nat → Bool) : List Nat := (List.range N).filter S
def cnt (S : Nat → Bool) (c : Nat) : Nat := (idx c S).length
def cutsL (N : Nat) (S : Nat → Bool) : List Nat := 0 :: (idx N S).map (· + 1)
def countsL (N : Nat) (S : Nat → Bool) : List Nat := (List.range (N + 1)).map (cnt S)
def ker (S : Nat → Bool) : Nat → Nat
  | 0 => 0
  | c + 1 => if S c = true then c + 1 else ker S c
def no : Str := ⟨#[]⟩
def pick (ws : List Str) (S : Nat → Bool) : List Str := (idx ws.length S).map fun i => ws.getD i no
theorem idx_mem {N : Nat} {S : Nat → Bool} {i : Nat} : i ∈ idx N S ↔ i < N ∧ S i = true := by unfold idx; rw [List.mem_filter, List.mem_range]
theorem idx_sorted (N : Nat) (S : Nat → Bool) : (idx N S).Pairwise (· < ·) := List.Pairwise.filter _ List.pairwise_lt_range
theorem idx_succ (c : Nat) (S : Nat → Bool) : idx (c + 1) S = idx c S ++ (if S c = true then [c] else []) := by
  unfold idx
  rw [List.range_succ, List.filter_append]
  by_cases h : S c = true <;> simp [h]
theorem idx_len (N : Nat) (S : Nat → Bool) : (idx N S).length ≤ N := by
  unfold idx
  exact Nat.le_trans (List.length_filter_le _ _) (by simp)
theorem cnt_zero (S : Nat → Bool) : cnt S 0 = 0 := rfl
theorem cnt_succ (S : Nat → Bool) (c : Nat) : cnt S (c + 1) = cnt S c + if S c = true then 1 else 0 := by
  unfold cnt
  rw [idx_succ, List.length_append]
  by_cases h : S c = true <;> simp [h]
theorem cnt_mono {S : Nat → Bool} {a b : Nat} (h : a ≤ b) : cnt S a ≤ cnt S b := by
  induction b with
  | zero => have : a = 0 := by omega
            subst this; exact Nat.le_refl _
  | succ b ih =>
    rcases Nat.lt_or_ge a (b + 1) with h1 | h1
    · have := ih (by omega)
      rw [cnt_succ]; omega
    · have : a = b + 1 := by omega
      subst this; exact Nat.le_refl _
theorem idx_pre (S : Nat → Bool) (c d : Nat) : ∃ t, idx (c + d) S = idx c S ++ t := by
  unfold idx
  exact ⟨_, by rw [List.range_add, List.filter_append]⟩
theorem cutsL_len (N : Nat) (S : Nat → Bool) : (cutsL N S).length = cnt S N + 1 := by unfold cutsL cnt; simp
theorem cutsL_succ (c : Nat) (S : Nat → Bool) : cutsL (c + 1) S = cutsL c S ++ (if S c = true then [c + 1] else []) := by
  unfold cutsL
  rw [idx_succ]
  by_cases h : S c = true <;> simp [h]
theorem cuts_last (S : Nat → Bool) : ∀ c, (cutsL c S)[cnt S c]? = some (ker S c)
  | 0 => rfl
  | c + 1 => by
    rw [cutsL_succ, cnt_succ]
    by_cases h : S c = true
    · have hl := cutsL_len c S
      rw [if_pos h, if_pos h, List.getElem?_append_right (by omega), hl, Nat.sub_self]
      show some (c + 1) = some (ker S (c + 1))
      unfold ker
      rw [if_pos h]
    · rw [if_neg h, if_neg h, List.append_nil, Nat.add_zero, cuts_last S c]
      show some (ker S c) = some (ker S (c + 1))
      rw [show ker S (c + 1) = ker S c from by rw [ker]; exact if_neg h]
theorem cuts_at {N c : Nat} (S : Nat → Bool) (h : c ≤ N) : (cutsL N S)[cnt S c]? = some (ker S c) := by
  obtain ⟨t, ht⟩ := idx_pre S c (N - c)
  have e : c + (N - c) = N := by omega
  rw [e] at ht
  have e2 : cutsL N S = cutsL c S ++ t.map (· + 1) := by
    unfold cutsL
    rw [ht]
    simp
  rw [e2, List.getElem?_append_left (by rw [cutsL_len]; omega)]
  exact cuts_last S c
theorem cuts_mem {N c : Nat} {S : Nat → Bool} : c + 1 ∈ cutsL N S ↔ c < N ∧ S c = true := by
  unfold cutsL
  simp only [List.mem_cons, List.mem_map]
  constructor
  · rintro (h | ⟨a, ha, e⟩)
    · omega
    · have : a = c := by omega
      subst this; exact idx_mem.mp ha
  · intro h
    exact .inr ⟨c, idx_mem.mpr h, rfl⟩
theorem counts_at' {N c : Nat} (S : Nat → Bool) (h : c ≤ N) : (countsL N S)[c]? = some (cnt S c) := by
  unfold countsL
  rw [List.getElem?_map, List.getElem?_range (by omega)]
  rfl
/-! ### kernels -/
theorem ker_le (S : Nat → Bool) : ∀ c, ker S c ≤ c
  | 0 => Nat.le_refl _
  | c + 1 => by
    unfold ker
    by_cases h : S c = true
    · rw [if_pos h]; exact Nat.le_refl _
    · rw [if_neg h]; exact Nat.le_succ_of_le (ker_le S c)
theorem ker_fix (S : Nat → Bool) : ∀ c, ker S c = c ↔ c = 0 ∨ ∃ d, c = d + 1 ∧ S d = true
  | 0 => by simp [ker]
  | c + 1 => by
    have hl := ker_le S c
    unfold ker
    by_cases h : S c = true
    · simp [h]
    · simp [h]
      omega
theorem ker_idem (S : Nat → Bool) : ∀ c, ker S (ker S c) = ker S c
  | 0 => rfl
  | c + 1 => by
    by_cases h : S c = true
    · have e : ker S (c + 1) = c + 1 := by rw [ker]; exact if_pos h
      rw [e, e]
    · have e : ker S (c + 1) = ker S c := by rw [ker]; exact if_neg h
      rw [e]; exact ker_idem S c
theorem ker_mono1 (S : Nat → Bool) (c : Nat) : ker S c ≤ ker S (c + 1) := by
  rw [ker]
  have := ker_le S c
  split <;> omega
theorem ker_mono (S : Nat → Bool) {a b : Nat} (h : a ≤ b) : ker S a ≤ ker S b := by
  induction b with
  | zero => have : a = 0 := by omega
            subst this; exact Nat.le_refl _
  | succ b ih =>
    rcases Nat.lt_or_ge a (b + 1) with h1 | h1
    · exact Nat.le_trans (ih (by omega)) (ker_mono1 S b)
    · have : a = b + 1 := by omega
      subst this; exact Nat.le_refl _
/-- the greatest cut not above at which the edition stands -/
theorem ker_ge {S : Nat → Bool} {d c : Nat} (h : d ≤ c) (hd : ker S d = d) : d ≤ ker S c := by
  have := ker_mono S h
  omega
theorem ker_or (S T : Nat → Bool) : ∀ c, ker (fun i => S i || T i) c = max (ker S c) (ker T c)
  | 0 => rfl
  | c + 1 => by
    have h1 := ker_le S c
    have h2 := ker_le T c
    have ih := ker_or S T c
    unfold ker
    by_cases a : S c = true <;> by_cases b : T c = true <;> simp [a, b, ih] <;> omega
theorem ker_congr {S T : Nat → Bool} : ∀ c, (∀ i < c, S i = T i) → ker S c = ker T c
  | 0, _ => rfl
  | c + 1, h => by
    unfold ker
    rw [h c (by omega), ker_congr c fun i hi => h i (by omega)]
theorem ker_all : ∀ c, ker (fun _ => true) c = c
  | 0 => rfl
  | c + 1 => by simp [ker]
theorem ker_none : ∀ c, ker (fun _ => false) c = 0
  | 0 => rfl
  | c + 1 => by
    rw [ker]
    simp [ker_none c]
theorem ker_sub {S T : Nat → Bool} {N : Nat} : (∀ i < N, S i = true → T i = true) ↔ ∀ c ≤ N, ker S c ≤ ker T c := by
  constructor
  · intro h c hc
    have h1 : ker T (ker S c) = ker S c := by
      rw [ker_fix]
      rcases (ker_fix S (ker S c)).mp (ker_idem S c) with e | ⟨d, e, hd⟩
      · exact .inl e
      · have := ker_le S c
        exact .inr ⟨d, e, h d (by omega) hd⟩
    exact ker_ge (ker_le S c) h1
  · intro h i hi hS
    have h1 := h (i + 1) (by omega)
    have h2 : ker S (i + 1) = i + 1 := by rw [ker]; exact if_pos hS
    have h3 := ker_le T (i + 1)
    have h4 : ker T (i + 1) = i + 1 := by omega
    rcases (ker_fix T (i + 1)).mp h4 with e | ⟨d, e, hd⟩
    · omega
    · have : d = i := by omega
      subst this; exact hd
/-- so many passages end at a cut at most just if the cut is at least behind them -/
theorem cuts_le_iff {N c n : Nat} {S : Nat → Bool} {x : Nat} (hc : c ≤ N) (h : (cutsL N S)[n]? = some x) : x ≤ c ↔ n ≤ cnt S c := by
  have srt : (cutsL N S).Pairwise (· < ·) := by
    unfold cutsL
    refine List.pairwise_cons.mpr ⟨fun a ha => ?_, ?_⟩
    · obtain ⟨b, _, e⟩ := List.mem_map.mp ha
      omega
    · refine List.Pairwise.map _ (fun a b hab => ?_) (idx_sorted N S)
      omega
  have hk := cuts_at S hc
  obtain ⟨l1, e1⟩ := List.getElem?_eq_some_iff.mp h
  obtain ⟨l2, e2⟩ := List.getElem?_eq_some_iff.mp hk
  have hkl := ker_le S c
  constructor
  · intro hx
    rcases Nat.lt_or_ge (cnt S c) n with hn | hn
    · exfalso
      have h1 := List.pairwise_iff_getElem.mp srt (cnt S c) n l2 l1 hn
      rw [e1, e2] at h1
      -- x stands in S and is at most c, so it is at most the kernel
      cases n with
      | zero => omega
      | succ n =>
        have h2 : x ∈ (idx N S).map (· + 1) := by
          unfold cutsL at h
          have : ((idx N S).map (· + 1))[n]? = some x := h
          exact List.mem_of_getElem? this
        obtain ⟨d, hd, e⟩ := List.mem_map.mp h2
        have e : d + 1 = x := e
        have h3 : ker S x = x := (ker_fix S x).mpr (.inr ⟨d, e.symm, (idx_mem.mp hd).2⟩)
        have := ker_ge hx h3
        omega
    · exact hn
  · intro hn
    rcases Nat.lt_or_ge n (cnt S c) with h1 | h1
    · have h2 := List.pairwise_iff_getElem.mp srt n (cnt S c) l1 l2 h1
      rw [e1, e2] at h2
      omega
    · have : n = cnt S c := by omega
      subst this
      rw [hk] at h
      have := Option.some.inj h
      omega
theorem cnt_cuts {N n : Nat} {S : Nat → Bool} {x : Nat} (h : (cutsL N S)[n]? = some x) : x ≤ N ∧ cnt S x = n := by
  have hn : n ≤ cnt S N := by
    have := (List.getElem?_eq_some_iff.mp h).1
    rw [cutsL_len] at this
    omega
  have hx : x ≤ N := (cuts_le_iff (Nat.le_refl N) h).mpr hn
  refine ⟨hx, ?_⟩
  have h1 := (cuts_le_iff hx h).mp (Nat.le_refl _)
  rcases Nat.lt_or_ge n (cnt S x) with h2 | h2
  · exfalso
    have hk := cuts_at S hx
    have h3 := (cuts_le_iff (c := x) hx (n := n + 1) (x := (cutsL N S).getD (n + 1) 0) ?_).mpr h2
    · have srt : (cutsL N S).Pairwise (· < ·) := by
        unfold cutsL
        refine List.pairwise_cons.mpr ⟨fun a ha => ?_, ?_⟩
        · obtain ⟨b, _, e⟩ := List.mem_map.mp ha
          omega
        · refine List.Pairwise.map _ (fun a b hab => ?_) (idx_sorted N S)
          omega
      have l2 : n + 1 < (cutsL N S).length := by
        have := (List.getElem?_eq_some_iff.mp hk).1
        omega
      obtain ⟨l1, e1⟩ := List.getElem?_eq_some_iff.mp h
      have h4 := List.pairwise_iff_getElem.mp srt n (n + 1) l1 l2 (by omega)
      rw [List.getD_eq_getElem?_getD, List.getElem?_eq_getElem l2] at h3
      simp at h3
      omega
    · have l2 : n + 1 < (cutsL N S).length := by
        have := (List.getElem?_eq_some_iff.mp hk).1
        omega
      rw [List.getD_eq_getElem?_getD, List.getElem?_eq_getElem l2]
      rfl
  · omega
end Lm

/-! R17: for i, (x, y) in enumerate(zip(a, b)), two lists. -/
namespace Lm
open PySem PySem.Spec PyProof.Rows L2 RZ
open Sem (wp)
/-- a zip as it stands between two turns, its last tuple handed out or not -/
abbrev ZipG (h : Heap) (z TI TO : Addr) (f0 : Value) (f : Bool) : Prop :=
  h.get? z = some { cls := .type "zip", dict := none, data := .fields #[f0, .bool f, .bool false, .ref TI, .ref TO], slots := #[] }
def Own0 (f0 : Value) : Prop := f0 = .none ∨ ∃ T : Addr, f0 = rawInt T
def ZipA (h : Heap) (z TI TO : Addr) : Prop := ∃ f0 f, ZipG h z TI TO f0 f ∧ Own0 f0
section
variable {prog : Program} {w : World} {A : Around} {E : Value → Shared → Prop} {s : Shared}
theorem alive_any {a : Addr} {Q : Option Obj → Shared → Prop} (h : Q (s.heap.get? a) s) : wpAny (model prog w) A (loadIfAlive a) Q E s := fun _ _ _ => h
theorem owned_any {z TI TO : Addr} {f0 : Value} {f : Bool} {Q : Bool → Shared → Prop} (hz : ZipG s.heap z TI TO f0 f) (h0 : Own0 f0)
    (ht : Q true s) (hf : ∀ h', ZipG h' z TI TO f0 true → Heap.SameBut z s.heap h' → Q false { s with heap := h' }) : wpAny (model prog w) A (Builtin.SmallTypes.ownedTupleIsFree (.ref z)) Q E s := by
  unfold Builtin.SmallTypes.ownedTupleIsFree
  refine wpAny_bind (wpAny_field hz rfl (x := f0) rfl ?_)
  rcases h0 with rfl | ⟨T, rfl⟩
  · exact wpAny_pure ht
  · show wpAny _ _ (loadIfAlive ((T : Int).toNat) >>= _) _ _ _
    rw [Int.toNat_natCast]
    refine wpAny_bind (alive_any ?_)
    cases s.heap.get? T with
    | none =>
      simp only [Option.isNone_none, if_true]
      exact wpAny_pure ht
    | some o =>
      simp only [Option.isNone_some, Bool.false_eq_true, if_false]
      refine wpAny_bind (wpAny_field hz rfl (x := .bool f) rfl ?_)
      cases f with
      | true =>
        rw [if_neg (show ¬ ((Value.bool true != Value.bool true) = true) from Bool.false_ne_true)]
        exact wpAny_pure (hf s.heap hz (Heap.SameBut.refl _ _))
      | false =>
        rw [if_pos (show (Value.bool false != Value.bool true) = true from rfl)]
        exact wpAny_bind (wpAny_setField_rec hz (by simp) fun h₁ hz₁ hs₁ => wpAny_pure (hf h₁ hz₁ hs₁))
theorem zipG_item {z TI TO i1 i2 l1 l2 : Addr} {k1 k2 : Nat} {xs ys : Array Value} {x y : Value} {Q : Value → Shared → Prop} (D : ZipApart z TI TO i1 i2 l1 l2)
    (hz : ZipA s.heap z TI TO) (hTI : IsPair s.heap TI (.ref i1) (.ref i2)) (hTO : ∃ a b, IsPair s.heap TO a b)
    (h1 : s.heap.IsListIter i1 l1 k1) (h2 : s.heap.IsListIter i2 l2 k2) (hl1 : s.heap.IsList l1 xs) (hl2 : s.heap.IsList l2 ys) (hx : xs[k1]? = some x) (hy : ys[k2]? = some y)
    (hQ : ∀ h', ZipA h' z TI TO → (∃ a b, IsPair h' TO a b) → h'.IsListIter i1 l1 (k1 + 1) → h'.IsListIter i2 l2 (k2 + 1) → IsPair h' s.heap.objs.size x y → h'.objs.size = s.heap.objs.size + 1 →
      (∀ c o, c ≠ z → c ≠ TO → c ≠ i1 → c ≠ i2 → s.heap.get? c = some o → h'.get? c = some o) → Q (.ref s.heap.objs.size) { s with heap := h' }) :
    wpAny (model prog w) A (Builtin.«zip.__next__» ⟨[.ref z], []⟩) (fun fin s' => ∃ v, fin = .done (.ret v) ∧ Q v s') E s := by
  obtain ⟨f0, f, hz, h0⟩ := hz
  obtain ⟨a, b, hTO⟩ := hTO
  show wpAny _ _ (field (.ref z) 2 >>= _) _ _ _
  refine wpAny_bind (wpAny_field hz rfl (x := .bool false) rfl ?_)
  show wpAny _ _ (field (.ref z) 3 >>= _) _ _ _
  refine wpAny_bind (wpAny_field hz rfl (x := .ref TI) rfl ?_)
  refine wpAny_bind (wpAny_seqItems hTI rfl ?_)
  show wpAny _ _ (Builtin.SmallTypes.ownedTupleIsFree (.ref z) >>= _) _ _ _
  refine wpAny_bind (owned_any hz h0 ?_ fun h₁ hz₁ hs₁ => ?_)
  · simp only [if_true]
    refine wpAny_bind (wpAny_rule ?_)
    refine wpAny_bind (wpAny_field hz rfl (x := .ref TO) rfl ?_)
    refine wpAny_bind (wpAny_setField_rec hz (by simp) fun h₁ hz₁ hs₁ => ?_)
    replace hz₁ : ZipG h₁ z TI TO .ellipsis f := hz₁
    refine wpAny_bind ?_
    simp only [List.zipIdx_cons, List.zipIdx_nil, List.forIn_cons, List.forIn_nil]
    refine wpAny_bind (wpAny_bind (wpAny_onRaise ?_))
    show wpAny _ _ (Builtin.SmallTypes.nextOf (.ref i1) >>= _) _ _ _
    refine wpAny_bind (wpAny_nextOf_list_item (h1.extBut hs₁.extBut D.i1z) (hl1.extBut hs₁.extBut D.l1z) hx fun h₂ h1₂ hs₂ => wpAny_pure ?_)
    have hTO₂ : IsPair h₂ TO a b := hs₂.extBut _ _ D.TOi1 (hs₁.extBut _ _ D.TOz hTO)
    refine wpAny_bind (wpAny_seqItems hTO₂ rfl ?_)
    refine wpAny_bind (wpAny_updateSeq_pair hTO₂ fun h₃ hTO₃ hs₃ => ?_)
    replace hTO₃ : IsPair h₃ TO x b := hTO₃
    refine wpAny_bind (wpAny_letGo (wpAny_pure ?_))
    refine wpAny_bind (wpAny_bind (wpAny_onRaise ?_))
    show wpAny _ _ (Builtin.SmallTypes.nextOf (.ref i2) >>= _) _ _ _
    refine wpAny_bind (wpAny_nextOf_list_item (((h2.extBut hs₁.extBut D.i2z).extBut hs₂.extBut D.i12.symm).extBut hs₃.extBut D.TOi2.symm)
      (((hl2.extBut hs₁.extBut D.l2z).extBut hs₂.extBut D.l2i1).extBut hs₃.extBut D.l2TO) hy fun h₄ h2₄ hs₄ => wpAny_pure ?_)
    have hTO₄ : IsPair h₄ TO x b := hs₄.extBut _ _ D.TOi2 hTO₃
    refine wpAny_bind (wpAny_seqItems hTO₄ rfl ?_)
    refine wpAny_bind (wpAny_updateSeq_pair hTO₄ fun h₅ hTO₅ hs₅ => ?_)
    replace hTO₅ : IsPair h₅ TO x y := hTO₅
    refine wpAny_bind (wpAny_letGo (wpAny_pure (wpAny_pure ?_)))
    refine wpAny_bind (wpAny_seqItems hTO₅ rfl ?_)
    refine wpAny_bind (wpAny_newTuple ?_)
    have hsz : h₅.objs.size = s.heap.objs.size := by rw [hs₅.1, hs₄.1, hs₃.1, hs₂.1, hs₁.1]
    have hz₅ : ZipG h₅ z TI TO .ellipsis f := hs₅.extBut _ _ D.TOz.symm (hs₄.extBut _ _ D.i2z.symm (hs₃.extBut _ _ D.TOz.symm (hs₂.extBut _ _ D.i1z.symm hz₁)))
    have hk₅ : ∀ c o, c ≠ z → c ≠ TO → c ≠ i1 → c ≠ i2 → s.heap.get? c = some o → h₅.get? c = some o := fun c o c1 c2 c3 c4 e =>
      hs₅.extBut _ _ c2 (hs₄.extBut _ _ c4 (hs₃.extBut _ _ c2 (hs₂.extBut _ _ c3 (hs₁.extBut _ _ c1 e))))
    have h1₅ : h₅.IsListIter i1 l1 (k1 + 1) := ((h1₂.extBut hs₃.extBut D.TOi1.symm).extBut hs₄.extBut D.i12).extBut hs₅.extBut D.TOi1.symm
    have h2₅ : h₅.IsListIter i2 l2 (k2 + 1) := h2₄.extBut hs₅.extBut D.TOi2.symm
    have hzlt : z < h₅.objs.size := Heap.lt_size hz₅
    show wpAny _ _ (Builtin.SmallTypes.ownedTupleHandOut (.ref z) (.ref h₅.objs.size) >>= _) _ _ _
    refine wpAny_bind ?_
    unfold Builtin.SmallTypes.ownedTupleHandOut
    have hz₆ : ZipG (h₅.push { cls := .type "tuple", data := .seq #[x, y] }) z TI TO .ellipsis f := Heap.get?_push_of_some _ hz₅
    refine wpAny_bind (wpAny_setField_rec hz₆ (by simp) fun h₇ hz₇ hs₇ => ?_)
    replace hz₇ : ZipG h₇ z TI TO (rawInt h₅.objs.size) f := hz₇
    refine wpAny_setField_rec hz₇ (by simp) fun h₈ hz₈ hs₈ => ?_
    replace hz₈ : ZipG h₈ z TI TO (rawInt h₅.objs.size) false := hz₈
    have up : ∀ c o, c ≠ z → h₅.get? c = some o → h₈.get? c = some o := fun c o c1 e => hs₈.extBut _ _ c1 (hs₇.extBut _ _ c1 (Heap.get?_push_of_some _ e))
    have hT₈ : IsPair h₈ h₅.objs.size x y := hs₈.extBut _ _ (Nat.ne_of_gt hzlt) (hs₇.extBut _ _ (Nat.ne_of_gt hzlt) (Heap.get?_push_size _ rfl))
    have hz8 : h₈.objs.size = h₅.objs.size + 1 := by rw [hs₈.1, hs₇.1, Heap.size_push]
    rw [hsz] at hz₈ hT₈ hz8
    refine wpAny_pure ⟨_, rfl, ?_⟩
    show Q (.ref h₅.objs.size) _
    rw [hsz]
    exact hQ h₈ ⟨_, _, hz₈, .inr ⟨_, rfl⟩⟩ ⟨_, _, up _ _ D.TOz hTO₅⟩ (h1₅.at fun o e => up _ o D.i1z e) (h2₅.at fun o e => up _ o D.i2z e) hT₈ hz8 fun c o c1 c2 c3 c4 e => up c o c1 (hk₅ c o c1 c2 c3 c4 e)
  · simp only [Bool.false_eq_true, if_false]
    refine wpAny_bind ?_
    rw [← Array.forIn_toList]
    simp only [List.forIn_cons, List.forIn_nil]
    refine wpAny_bind (wpAny_bind (wpAny_holding ?_))
    show wpAny _ _ (Builtin.SmallTypes.nextOf (.ref i1) >>= _) _ _ _
    refine wpAny_bind (wpAny_nextOf_list_item (s := { s with heap := h₁ }) (h1.extBut hs₁.extBut D.i1z) (hl1.extBut hs₁.extBut D.l1z) hx fun h₂ h1₂ hs₂ => wpAny_pure ?_)
    refine wpAny_pure ?_
    refine wpAny_bind (wpAny_bind (wpAny_holding ?_))
    show wpAny _ _ (Builtin.SmallTypes.nextOf (.ref i2) >>= _) _ _ _
    refine wpAny_bind (wpAny_nextOf_list_item (s := { s with heap := h₂ }) ((h2.extBut hs₁.extBut D.i2z).extBut hs₂.extBut D.i12.symm) ((hl2.extBut hs₁.extBut D.l2z).extBut hs₂.extBut D.l2i1) hy fun h₃ h2₃ hs₃ => wpAny_pure ?_)
    refine wpAny_pure (wpAny_pure ?_)
    show wpAny _ _ (newTuple [x, y] >>= _) _ _ _
    refine wpAny_bind (wpAny_newTuple ?_)
    have hsz : h₃.objs.size = s.heap.objs.size := by rw [hs₃.1, hs₂.1, hs₁.1]
    have hz₃ : ZipG h₃ z TI TO f0 true := hs₃.extBut _ _ D.i2z.symm (hs₂.extBut _ _ D.i1z.symm hz₁)
    have hk : ∀ c o, c ≠ z → c ≠ i1 → c ≠ i2 → s.heap.get? c = some o → h₃.get? c = some o := fun c o c1 c2 c3 e => hs₃.extBut _ _ c3 (hs₂.extBut _ _ c2 (hs₁.extBut _ _ c1 e))
    have h1₃ : h₃.IsListIter i1 l1 (k1 + 1) := h1₂.extBut hs₃.extBut D.i12
    refine wpAny_pure ⟨_, rfl, ?_⟩
    show Q (.ref h₃.objs.size) _
    have hp : IsPair (h₃.push { cls := .type "tuple", data := .seq #[x, y] }) h₃.objs.size x y := Heap.get?_push_size _ rfl
    have hz4 : (h₃.push { cls := .type "tuple", data := .seq #[x, y] }).objs.size = h₃.objs.size + 1 := Heap.size_push ..
    rw [hsz] at hp hz4 ⊢
    exact hQ _ ⟨_, _, Heap.get?_push_of_some _ hz₃, h0⟩ ⟨_, _, Heap.get?_push_of_some _ (hk _ _ D.TOz D.TOi1 D.TOi2 hTO)⟩ (h1₃.at fun o e => Heap.get?_push_of_some _ e) (h2₃.at fun o e => Heap.get?_push_of_some _ e) hp hz4
      fun c o c1 _ c2 c3 e => Heap.get?_push_of_some _ (hk c o c1 c2 c3 e)
theorem zipG_end {z TI TO i1 i2 l1 l2 : Addr} {k1 k2 : Nat} {xs ys : Array Value} {Q : Fin → Shared → Prop} (hh : A.handled = none) (D : ZipApart z TI TO i1 i2 l1 l2)
    (hz : ZipA s.heap z TI TO) (hTI : IsPair s.heap TI (.ref i1) (.ref i2)) (hTO : ∃ a b, IsPair s.heap TO a b)
    (h1 : s.heap.IsListIter i1 l1 k1) (h2 : s.heap.IsListIter i2 l2 k2) (hl1 : s.heap.IsList l1 xs) (hl2 : s.heap.IsList l2 ys) (hend : xs[k1]? = none ∨ ys[k2]? = none)
    (hE : ∀ h' e, (∀ c o, c ≠ z → c ≠ TO → c ≠ i1 → c ≠ i2 → s.heap.get? c = some o → h'.get? c = some o) → (∃ o, h'.get? e = some o ∧ o.cls = .type "StopIteration") → E (.ref e) { s with heap := h' }) :
    wpAny (model prog w) A (Builtin.«zip.__next__» ⟨[.ref z], []⟩) Q E s := by
  obtain ⟨f0, f, hz, h0⟩ := hz
  obtain ⟨a, b, hTO⟩ := hTO
  show wpAny _ _ (field (.ref z) 2 >>= _) _ _ _
  refine wpAny_bind (wpAny_field hz rfl (x := .bool false) rfl ?_)
  show wpAny _ _ (field (.ref z) 3 >>= _) _ _ _
  refine wpAny_bind (wpAny_field hz rfl (x := .ref TI) rfl ?_)
  refine wpAny_bind (wpAny_seqItems hTI rfl ?_)
  show wpAny _ _ (Builtin.SmallTypes.ownedTupleIsFree (.ref z) >>= _) _ _ _
  refine wpAny_bind (owned_any hz h0 ?_ fun h₁ hz₁ hs₁ => ?_)
  · simp only [if_true]
    refine wpAny_bind (wpAny_rule ?_)
    refine wpAny_bind (wpAny_field hz rfl (x := .ref TO) rfl ?_)
    refine wpAny_bind (wpAny_setField_rec hz (by simp) fun h₁ hz₁ hs₁ => ?_)
    replace hz₁ : ZipG h₁ z TI TO .ellipsis f := hz₁
    refine wpAny_bind ?_
    simp only [List.zipIdx_cons, List.zipIdx_nil, List.forIn_cons, List.forIn_nil]
    refine wpAny_bind (wpAny_bind (wpAny_onRaise ?_))
    show wpAny _ _ (Builtin.SmallTypes.nextOf (.ref i1) >>= _) _ _ _
    cases hx : xs[k1]? with
    | none =>
      refine wpAny_bind (wpAny_nextOf_list_end hh (h1.extBut hs₁.extBut D.i1z) (hl1.extBut hs₁.extBut D.l1z) hx fun h₂ e hs₂ he => ?_)
      obtain ⟨oe, hoe, hce⟩ := he
      have hz₂ : ZipG h₂ z TI TO .ellipsis f := hs₂ _ _ D.i1z.symm hz₁
      have hez : e ≠ z := fun x => by subst x; rw [hz₂] at hoe; cases hoe; simp at hce
      refine wpAny_setField_rec hz₂ (by simp) fun h₃ _ hs₃ => hE h₃ e (fun c o c1 _ c3 _ x => hs₃.extBut _ _ c1 (hs₂ _ _ c3 (hs₁.extBut _ _ c1 x))) ⟨oe, hs₃.extBut _ _ hez hoe, hce⟩
    | some x =>
      have hy : ys[k2]? = none := by rcases hend with h | h; rw [hx] at h; cases h; exact h
      refine wpAny_bind (wpAny_nextOf_list_item (h1.extBut hs₁.extBut D.i1z) (hl1.extBut hs₁.extBut D.l1z) hx fun h₂ h1₂ hs₂ => wpAny_pure ?_)
      have hTO₂ : IsPair h₂ TO a b := hs₂.extBut _ _ D.TOi1 (hs₁.extBut _ _ D.TOz hTO)
      refine wpAny_bind (wpAny_seqItems hTO₂ rfl ?_)
      refine wpAny_bind (wpAny_updateSeq_pair hTO₂ fun h₃ hTO₃ hs₃ => ?_)
      refine wpAny_bind (wpAny_letGo (wpAny_pure ?_))
      refine wpAny_bind (wpAny_bind (wpAny_onRaise ?_))
      show wpAny _ _ (Builtin.SmallTypes.nextOf (.ref i2) >>= _) _ _ _
      refine wpAny_bind (wpAny_nextOf_list_end hh (((h2.extBut hs₁.extBut D.i2z).extBut hs₂.extBut D.i12.symm).extBut hs₃.extBut D.TOi2.symm)
        (((hl2.extBut hs₁.extBut D.l2z).extBut hs₂.extBut D.l2i1).extBut hs₃.extBut D.l2TO) hy fun h₄ e hs₄ he => ?_)
      obtain ⟨oe, hoe, hce⟩ := he
      have hz₄ : ZipG h₄ z TI TO .ellipsis f := hs₄ _ _ D.i2z.symm (hs₃.extBut _ _ D.TOz.symm (hs₂.extBut _ _ D.i1z.symm hz₁))
      have hez : e ≠ z := fun x => by subst x; rw [hz₄] at hoe; cases hoe; simp at hce
      refine wpAny_setField_rec hz₄ (by simp) fun h₅ _ hs₅ => hE h₅ e (fun c o c1 c2 c3 c4 x => hs₅.extBut _ _ c1 (hs₄ _ _ c4 (hs₃.extBut _ _ c2 (hs₂.extBut _ _ c3 (hs₁.extBut _ _ c1 x))))) ⟨oe, hs₅.extBut _ _ hez hoe, hce⟩
  · simp only [Bool.false_eq_true, if_false]
    refine wpAny_bind ?_
    rw [← Array.forIn_toList]
    simp only [List.forIn_cons, List.forIn_nil]
    refine wpAny_bind (wpAny_bind (wpAny_holding ?_))
    show wpAny _ _ (Builtin.SmallTypes.nextOf (.ref i1) >>= _) _ _ _
    cases hx : xs[k1]? with
    | none =>
      refine wpAny_bind (wpAny_nextOf_list_end (s := { s with heap := h₁ }) hh (h1.extBut hs₁.extBut D.i1z) (hl1.extBut hs₁.extBut D.l1z) hx fun h₂ e hs₂ he => ?_)
      exact hE h₂ e (fun c o c1 _ c2 _ x => hs₂ _ _ c2 (hs₁.extBut _ _ c1 x)) he
    | some x =>
      have hy : ys[k2]? = none := by rcases hend with h | h; rw [hx] at h; cases h; exact h
      refine wpAny_bind (wpAny_nextOf_list_item (s := { s with heap := h₁ }) (h1.extBut hs₁.extBut D.i1z) (hl1.extBut hs₁.extBut D.l1z) hx fun h₂ h1₂ hs₂ => wpAny_pure ?_)
      refine wpAny_pure ?_
      refine wpAny_bind (wpAny_bind (wpAny_holding ?_))
      show wpAny _ _ (Builtin.SmallTypes.nextOf (.ref i2) >>= _) _ _ _
      refine wpAny_bind (wpAny_nextOf_list_end (s := { s with heap := h₂ }) hh ((h2.extBut hs₁.extBut D.i2z).extBut hs₂.extBut D.i12.symm) ((hl2.extBut hs₁.extBut D.l2z).extBut hs₂.extBut D.l2i1) hy fun h₃ e hs₃ he => ?_)
      exact hE h₃ e (fun c o c1 _ c2 c3 x => hs₃ _ _ c3 (hs₂.extBut _ _ c2 (hs₁.extBut _ _ c1 x))) he
/-- what stands apart in an enumerate of a zip -/
structure EZ (e z TI TO i1 i2 : Addr) : Prop where
  z : e ≠ z
  TI : e ≠ TI
  TO : e ≠ TO
  i1 : e ≠ i1
  i2 : e ≠ i2
theorem enumZip_item {e z TI TO i1 i2 l1 l2 : Addr} {i : Nat} {xs ys : Array Value} {x y old : Value} {Q : Option Value → Shared → Prop} (D : ZipApart z TI TO i1 i2 l1 l2) (N : EZ e z TI TO i1 i2)
    (he : IsEnum s.heap e z i old) (hz : ZipA s.heap z TI TO) (hTI : IsPair s.heap TI (.ref i1) (.ref i2)) (hTO : ∃ a b, IsPair s.heap TO a b)
    (h1 : s.heap.IsListIter i1 l1 i) (h2 : s.heap.IsListIter i2 l2 i) (hl1 : s.heap.IsList l1 xs) (hl2 : s.heap.IsList l2 ys) (hx : xs[i]? = some x) (hy : ys[i]? = some y)
    (hQ : ∀ hm h', IsPair hm s.heap.objs.size x y → hm.objs.size = s.heap.objs.size + 1 → (∀ c o, c ≠ z → c ≠ TO → c ≠ i1 → c ≠ i2 → s.heap.get? c = some o → hm.get? c = some o) →
      IsEnumOut h' e z ((i : Int) + 1) (.ref s.heap.objs.size) (s.heap.objs.size + 1) → ZipA h' z TI TO → IsPair h' TI (.ref i1) (.ref i2) → (∃ a b, IsPair h' TO a b) → h'.IsListIter i1 l1 (i + 1) → h'.IsListIter i2 l2 (i + 1) →
      h'.get? (s.heap.objs.size + 1) = some { cls := .type "tuple", data := .seq #[.int i s.toks, .ref s.heap.objs.size] } → h'.objs.size = s.heap.objs.size + 2 →
      (∀ c o, c ≠ e → hm.get? c = some o → h'.get? c = some o) → Q (some (.ref (s.heap.objs.size + 1))) { s with heap := h', toks := s.toks + 1 }) :
    wpAny (model prog w) A (pyNext (.ref e)) Q E s := by
  obtain ⟨hp, g, d, tk, os⟩ := s
  have hTe : Shared.TypeIs ⟨hp, g, d, tk, os⟩ (.ref e) "enumerate" := ⟨_, he, rfl⟩
  have hel : e < hp.objs.size := Heap.lt_size he
  unfold pyNext
  refine wpAny_bind (wpAny_attempt (wpAny_callSpecial?_slot (name := Str.ofString "__next__") hTe F.slot_enumerate_next
    (wpAny_call_entry F.slot_enumerate_next hTe F.entry_enumerate_next ?_ (F.args_enumerate_next_1 _))))
  show wpAny _ _ (field (.ref e) 2 >>= _) _ _ _
  refine wpAny_bind (wpAny_field he rfl (x := .ref z) rfl ?_)
  have hTz : Shared.TypeIs ⟨hp, g, d, tk, os⟩ (.ref z) "zip" := by obtain ⟨f0, f, q, _⟩ := hz; exact ⟨_, q, rfl⟩
  unfold Builtin.SmallTypes.nextOf
  refine wpAny_bind (wpAny_bind (wpAny_callSpecial?_slot (name := Str.ofString "__next__") hTz F.slot_zip_next
    (wpAny_call_entry F.slot_zip_next hTz F.entry_zip_next
      (zipG_item D hz hTI hTO h1 h2 hl1 hl2 hx hy fun hm z1 t1 j1 j2 p1 sz1 k1 => ?_) (F.args_zip_next_1 _))))
  refine wpAny_pure ?_
  replace k1 : ∀ c o, c ≠ z → c ≠ TO → c ≠ i1 → c ≠ i2 → hp.get? c = some o → hm.get? c = some o := k1
  replace p1 : IsPair hm hp.objs.size x y := p1
  replace sz1 : hm.objs.size = hp.objs.size + 1 := sz1
  have he₁ : IsEnum hm e z i old := k1 _ _ N.z N.TO N.i1 N.i2 he
  have hTI₁ : IsPair hm TI (.ref i1) (.ref i2) := k1 _ _ D.TIz D.TITO D.TIi1 D.TIi2 hTI
  show wpAny _ _ (field (.ref e) 3 >>= _) _ _ ⟨hm, g, d, tk, os⟩
  refine wpAny_bind (wpAny_field he₁ rfl (x := rawInt i) rfl ?_)
  show wpAny _ _ (field (.ref e) 4 >>= _) _ _ ⟨hm, g, d, tk, os⟩
  refine wpAny_bind (wpAny_field he₁ rfl (x := .none) rfl ?_)
  show wpAny _ _ (mkInt i >>= _) _ _ ⟨hm, g, d, tk, os⟩
  refine wpAny_bind (wpAny_mkInt ?_)
  show wpAny _ _ (setField (.ref e) 3 (rawInt ((i : Int) + 1)) >>= _) _ _ ⟨hm, g, d, tk + 1, os⟩
  refine wpAny_bind (wpAny_setField_rec he₁ (by simp) fun h₂ he₂ hs₂ => ?_)
  replace hs₂ : Heap.SameBut e hm h₂ := hs₂
  replace he₂ : IsEnum h₂ e z ((i : Int) + 1) old := he₂
  show wpAny _ _ (setField (.ref e) 4 .none >>= _) _ _ ⟨h₂, g, d, tk + 1, os⟩
  refine wpAny_bind (wpAny_setField_rec he₂ (by simp) fun h₃ he₃ hs₃ => ?_)
  replace hs₃ : Heap.SameBut e h₂ h₃ := hs₃
  replace he₃ : IsEnum h₃ e z ((i : Int) + 1) old := he₃
  show wpAny _ _ (newTuple [.int i tk, .ref hp.objs.size] >>= _) _ _ ⟨h₃, g, d, tk + 1, os⟩
  refine wpAny_bind (wpAny_newTuple ?_)
  have he₄ : IsEnum (h₃.push { cls := .type "tuple", data := .seq #[.int i tk, .ref hp.objs.size] }) e z ((i : Int) + 1) old := Heap.get?_push_of_some _ he₃
  generalize hh₄ : h₃.push { cls := .type "tuple", data := .seq #[.int i tk, .ref hp.objs.size] } = h₄ at he₄
  have hsz : h₃.objs.size = hp.objs.size + 1 := by rw [hs₃.1, hs₂.1, sz1]
  have ht₄ : h₄.get? (hp.objs.size + 1) = some { cls := .type "tuple", data := .seq #[.int i tk, .ref hp.objs.size] } := by rw [← hh₄, ← hsz]; exact Heap.get?_push_size _ rfl
  have hz₄ : h₄.objs.size = hp.objs.size + 2 := by rw [← hh₄, Heap.size_push, hsz]
  have hk₄ : ∀ b o, b ≠ e → hm.get? b = some o → h₄.get? b = some o := fun b o hbe hb => by
    rw [← hh₄]; exact Heap.get?_push_of_some _ (hs₃.extBut b o hbe (hs₂.extBut b o hbe hb))
  show wpAny _ _ (Builtin.SmallTypes.ownedTupleIsFree (.ref e) >>= _) _ _ ⟨h₄, g, d, tk + 1, os⟩
  rw [hsz]
  clear hh₄ he₃ hs₃ he₂ hs₂ he₁ hsz h₃ h₂
  refine wpAny_bind ?_
  unfold Builtin.SmallTypes.ownedTupleIsFree
  refine wpAny_bind (wpAny_field he₄ rfl (x := .none) rfl (wpAny_pure ?_))
  simp only [if_true]
  refine wpAny_bind (wpAny_rule ?_)
  refine wpAny_bind (wpAny_field he₄ rfl (x := old) rfl ?_)
  refine wpAny_bind (wpAny_setField_rec he₄ (by simp) fun h₅ he₅ hs₅ => ?_)
  replace hs₅ : Heap.SameBut e h₄ h₅ := hs₅
  replace he₅ : IsEnum h₅ e z ((i : Int) + 1) (.ref hp.objs.size) := he₅
  show wpAny _ _ (Builtin.SmallTypes.ownedTupleHandOut (.ref e) (.ref (hp.objs.size + 1)) >>= _) _ _ ⟨h₅, g, d, tk + 1, os⟩
  refine wpAny_bind ?_
  unfold Builtin.SmallTypes.ownedTupleHandOut
  refine wpAny_bind (wpAny_setField_rec he₅ (by simp) fun h₆ he₆ hs₆ => ?_)
  replace hs₆ : Heap.SameBut e h₅ h₆ := hs₆
  replace he₆ : IsEnumOut h₆ e z ((i : Int) + 1) (.ref hp.objs.size) (hp.objs.size + 1) := he₆
  refine wpAny_setField_rec he₆ (by simp) fun h₇ he₇ hs₇ => ?_
  replace hs₇ : Heap.SameBut e h₆ h₇ := hs₇
  replace he₇ : IsEnumOut h₇ e z ((i : Int) + 1) (.ref hp.objs.size) (hp.objs.size + 1) := he₇
  have up : ∀ b o, b ≠ e → h₄.get? b = some o → h₇.get? b = some o := fun b o hb q => hs₇.extBut _ _ hb (hs₆.extBut _ _ hb (hs₅.extBut _ _ hb q))
  have up2 : ∀ b o, b ≠ e → hm.get? b = some o → h₇.get? b = some o := fun b o hb q => up b o hb (hk₄ b o hb q)
  have hne : hp.objs.size + 1 ≠ e := Nat.ne_of_gt (Nat.lt_succ_of_lt hel)
  refine wpAny_bind (wpAny_letGo (wpAny_pure ⟨_, rfl, wpAny_pure (hQ hm h₇ p1 sz1 k1 he₇ ?_ (up2 _ _ N.TI.symm hTI₁) ?_ (j1.at fun o q => up2 _ o N.i1.symm q) (j2.at fun o q => up2 _ o N.i2.symm q) (up _ _ hne ht₄) ?_ up2)⟩))
  · obtain ⟨f0, f, q, q'⟩ := z1
    exact ⟨f0, f, up2 _ _ N.z.symm q, q'⟩
  · obtain ⟨a, b, q⟩ := t1
    exact ⟨a, b, up2 _ _ N.TO.symm q⟩
  · rw [hs₇.1, hs₆.1, hs₅.1, hz₄]
theorem enumZip_end {e z TI TO i1 i2 l1 l2 : Addr} {i : Nat} {xs ys : Array Value} {old : Value} {Q : Option Value → Shared → Prop} (hh : A.handled = none) (D : ZipApart z TI TO i1 i2 l1 l2)
    (he : IsEnum s.heap e z i old) (hz : ZipA s.heap z TI TO) (hTI : IsPair s.heap TI (.ref i1) (.ref i2)) (hTO : ∃ a b, IsPair s.heap TO a b)
    (h1 : s.heap.IsListIter i1 l1 i) (h2 : s.heap.IsListIter i2 l2 i) (hl1 : s.heap.IsList l1 xs) (hl2 : s.heap.IsList l2 ys) (hend : xs[i]? = none ∨ ys[i]? = none)
    (hQ : ∀ h', (∀ c o, c ≠ z → c ≠ TO → c ≠ i1 → c ≠ i2 → s.heap.get? c = some o → h'.get? c = some o) → Q none { s with heap := h' }) : wpAny (model prog w) A (pyNext (.ref e)) Q E s := by
  have hTe : s.TypeIs (.ref e) "enumerate" := ⟨_, he, rfl⟩
  have hTz : s.TypeIs (.ref z) "zip" := by obtain ⟨f0, f, q, _⟩ := hz; exact ⟨_, q, rfl⟩
  unfold pyNext
  refine wpAny_bind (wpAny_attempt (wpAny_callSpecial?_slot (name := Str.ofString "__next__") hTe F.slot_enumerate_next
    (wpAny_call_entry F.slot_enumerate_next hTe F.entry_enumerate_next ?_ (F.args_enumerate_next_1 _))))
  show wpAny _ _ (field (.ref e) 2 >>= _) _ _ _
  refine wpAny_bind (wpAny_field he rfl (x := .ref z) rfl ?_)
  unfold Builtin.SmallTypes.nextOf
  refine wpAny_bind (wpAny_bind (wpAny_callSpecial?_slot (name := Str.ofString "__next__") hTz F.slot_zip_next
    (wpAny_call_entry F.slot_zip_next hTz F.entry_zip_next (zipG_end hh D hz hTI hTO h1 h2 hl1 hl2 hend fun h' x hk hx' => ?_) (F.args_zip_next_1 _))))
  obtain ⟨o, ho, hc⟩ := hx'
  refine wpAny_bind (wpAny_isInstance (T := "StopIteration") (b := true) ⟨o, ho, hc⟩ isSubtype_stop ?_)
  exact wpAny_pure (hQ _ hk)
theorem enumG_letGo {elts : List Expr} {x1} {pos : Pos} {e z T : Addr} {i : Int} {x : Value} {Q : Unit → Shared → Prop} (he : IsEnumOut s.heap e z i x T)
    (hQ : ∀ h', IsEnum h' e z i x → Heap.SameBut e s.heap h' → Q () { s with heap := h' }) : wpAny (model prog w) A (letOwnedTupleGo (.Tuple elts x1 pos) (.ref e) (.ref T)) Q E s := wpAny_letOwnedTupleGo_enum he hQ
theorem call_enumerate_zip {z TI TO : Addr} {Q : Value → Shared → Prop} (hz : ZipG s.heap z TI TO .none false)
    (h : ∀ h', IsEnum h' s.heap.objs.size z 0 .none → h'.objs.size = s.heap.objs.size + 1 → (∀ b o, s.heap.get? b = some o → h'.get? b = some o) → Q (.ref s.heap.objs.size) { s with heap := h' }) :
    wpAny (model prog w) A (call (.type "enumerate") [.ref z]) Q E s := by
  have me : Meets (Builtin.«enumerate.__new__» ⟨[.type "enumerate", .ref z], []⟩) (fun _ R s => ZipG s.heap z TI TO .none false ∧
      R (.ok (.ret (.ref s.heap.objs.size))) { s with heap := s.heap.push { cls := .type "enumerate", data := .fields #[.none, .bool false, .ref z, rawInt 0, .none, .none] } }) :=
    .of_wp fun prog w A R s h => by
      obtain ⟨hp, g, d, tk, os⟩ := s
      obtain ⟨hz, h⟩ := h
      have hsub := sub_enumerate
      have hZ : IsZip (Shared.heap ⟨hp, g, d, tk, os⟩) z TI TO .none := hz
      wp_walk using AutoSeq1.wpAny_loadPart' hz
      refine wpAny_stack_any fun st => wpAny_pure ?_
      split
      · rename_i c _ _ _ _ _
        cases (c == Value.type "enumerate")
        · wp_walk using AutoSeq1.wpAny_loadPart' hz, wpAny_pyIter_zip hZ
          exact ⟨_, rfl, h⟩
        · wp_walk using AutoSeq1.wpAny_loadPart' hz, wpAny_pyIter_zip hZ
          exact ⟨_, rfl, h⟩
      · wp_walk using AutoSeq1.wpAny_loadPart' hz, wpAny_pyIter_zip hZ
        exact ⟨_, rfl, h⟩
  refine callType_new F.called_enumerate (by decide) (F.typeCall_enumerate_1 _) (F.newCall_enumerate_1 _) (fun obj => F.args_object_init_2 obj _) F.entry_enumerate_new me ⟨hz, ?_⟩
  have he : IsEnum (s.heap.push { cls := .type "enumerate", data := .fields #[.none, .bool false, .ref z, rawInt 0, .none, .none] }) s.heap.objs.size z 0 .none := Heap.get?_push_size _ rfl
  exact ⟨⟨_, he, rfl⟩, h _ he (Heap.size_push ..) fun b o x => Heap.get?_push_of_some _ x⟩
end
/-- the lists at a and b as they stand at each turn, the items in new pairs, the pairs in new pairs behind their number -/
def Itez (K : PySem.W.Frag) (a b : Addr) : It :=
  ⟨fun i H => ∃ (xs ys : List V) (x y : V), SqL K H a xs ∧ SqL K H b ys ∧ xs[i]? = some x ∧ ys[i]? = some y,
    fun i H v H' => ∃ P T x y, v = .ref T ∧ H P = none ∧ H T = none ∧ P ≠ T ∧ H' = upd (upd H P (.tup [x, y])) T (.tup [.int (i : Nat), .ref P]) ∧ (∀ xs, SqL K H a xs → xs[i]? = some x) ∧ ∀ ys, SqL K H b ys → ys[i]? = some y,
    fun i H => ∃ xs ys : List V, SqL K H a xs ∧ SqL K H b ys ∧ (xs.length ≤ i ∨ ys.length ≤ i)⟩
theorem turn_enumZip {P : Program} {w : World} {K : PySem.W.Frag} {elts : List Expr} {kk : Nat} {tpos : Pos} {a b e z TI TO i1 i2 : Addr} (D : ZipApart z TI TO i1 i2 a b) (N : EZ e z TI TO i1 i2) :
    Turn P w K (.Tuple elts kk tpos) (Itez K a b) [e, z, TI, TO, i1, i2] e (fun i h => (∃ old, IsEnum h e z ((i : Nat) : Int) old) ∧ ZipA h z TI TO ∧ IsPair h TI (.ref i1) (.ref i2) ∧ (∃ x y, IsPair h TO x y) ∧ h.IsListIter i1 a i ∧ h.IsListIter i2 b i) where
  mem := by simp
  obj := fun i h st c hc => by
    obtain ⟨⟨old, he⟩, ⟨f0, f, hz, _⟩, hTI, ⟨x, y, hTO⟩, ⟨o1, e1, _, d1⟩, ⟨o2, e2, _, d2⟩⟩ := st
    have e' : c = e ∨ c = z ∨ c = TI ∨ c = TO ∨ c = i1 ∨ c = i2 := by simpa using hc
    rcases e' with q | q | q | q | q | q
    · rw [q]; exact ⟨_, he, fun v q => nomatch q⟩
    · rw [q]; exact ⟨_, hz, fun v q => nomatch q⟩
    · rw [q]; exact ⟨_, hTI, fun v q => nomatch q⟩
    · rw [q]; exact ⟨_, hTO, fun v q => nomatch q⟩
    · rw [q]; exact ⟨o1, e1, fun v q => by rw [d1] at q; cases q⟩
    · rw [q]; exact ⟨o2, e2, fun v q => by rw [d2] at q; cases q⟩
  keep := fun i h h' st k => by
    obtain ⟨⟨old, he⟩, ⟨f0, f, hz, h0⟩, hTI, ⟨x, y, hTO⟩, h1, h2⟩ := st
    exact ⟨⟨old, k e (by simp) _ he⟩, ⟨f0, f, k z (by simp) _ hz, h0⟩, k TI (by simp) _ hTI, ⟨x, y, k TO (by simp) _ hTO⟩, h1.at fun o q => k i1 (by simp) o q, h2.at fun o q => k i2 (by simp) o q⟩
  item := by
    intro X hP hw hK hc i pins s σ H E I hf st hg
    subst hP hw hK
    obtain ⟨⟨old, he⟩, hz, hTI, hTO, h1, h2⟩ := st
    obtain ⟨xs, ys, x, y, hqx, hqy, hx, hy⟩ := hg
    obtain ⟨its, rv, p, _⟩ := I.list hqx
    obtain ⟨its2, rv2, p2, _⟩ := I.list hqy
    obtain ⟨u, hu, ru⟩ := rv.get hx
    obtain ⟨u2, hu2, ru2⟩ := rv2.get hy
    have lt : ∀ c, c ∈ [e, z, TI, TO, i1, i2] → c < s.heap.objs.size := fun c hcm => by
      have e' : c = e ∨ c = z ∨ c = TI ∨ c = TO ∨ c = i1 ∨ c = i2 := by simpa using hcm
      obtain ⟨f0, f, hz', _⟩ := hz
      obtain ⟨_, _, hTO'⟩ := hTO
      rcases e' with q | q | q | q | q | q
      · rw [q]; exact Heap.lt_size he
      · rw [q]; exact Heap.lt_size hz'
      · rw [q]; exact Heap.lt_size hTI
      · rw [q]; exact Heap.lt_size hTO'
      · rw [q]; obtain ⟨_, e1, _⟩ := h1; exact Heap.lt_size e1
      · rw [q]; obtain ⟨_, e2, _⟩ := h2; exact Heap.lt_size e2
    refine enumZip_item D N he hz hTI hTO h1 h2 p.isList p2.isList (x := u) (y := u2) (by simpa using hu) (by simpa using hu2) fun hm h' pm szm km he' hz' hTI' hTO' h1' h2' hT sz' k' => ?_
    refine ⟨_, rfl, wpAny_letOwnedTupleGo_enum (s := { s with heap := h', toks := s.toks + 1 }) he' fun h'' he'' sb => ?_⟩
    replace sb : Heap.SameBut e h' h'' := sb
    have new1 : ObjOk X.prog X.w (upd H s.heap.objs.size (.tup [x, y])) hm s.heap.objs.size (.tup [x, y]) :=
      ⟨by show 2 ≤ sizeLine; decide, [u, u2], .cons ru (.cons ru2 .nil), ⟨_, pm, rfl, _, rfl⟩⟩
    have I1 : Inv X pins σ (upd H s.heap.objs.size (.tup [x, y])) { s with heap := hm } :=
      I.turnedNew (t' := s.toks) (ch := [e, z, TI, TO, i1, i2]) (fun c o hb q => km c o (fun q' => hb (by simp [q'])) (fun q' => hb (by simp [q'])) (fun q' => hb (by simp [q'])) (fun q' => hb (by simp [q'])) q) hf (Nat.le_refl _) new1
    have hf1 : ∀ c ∈ [e, z, TI, TO, i1, i2], FpOk X pins (upd H s.heap.objs.size (.tup [x, y])) c := fun c hcm => ⟨by rw [upd_ne (Nat.ne_of_lt (lt c hcm))]; exact (hf c hcm).1, (hf c hcm).2⟩
    have hel : e < s.heap.objs.size := lt e (by simp)
    have hT2 : h''.get? (s.heap.objs.size + 1) = some { cls := .type "tuple", data := .seq #[.int i s.toks, .ref s.heap.objs.size] } := (sb.2 _ (Nat.ne_of_gt (Nat.lt_succ_of_lt hel))).trans hT
    have new2 : ObjOk X.prog X.w (upd (upd H s.heap.objs.size (.tup [x, y])) (s.heap.objs.size + 1) (.tup [.int (i : Nat), .ref s.heap.objs.size])) h'' (s.heap.objs.size + 1) (.tup [.int (i : Nat), .ref s.heap.objs.size]) :=
      ⟨by show 2 ≤ sizeLine; decide, [.int i s.toks, .ref s.heap.objs.size], .cons ⟨_, rfl⟩ (.cons rfl .nil), ⟨_, hT2, rfl, _, rfl⟩⟩
    have I2 : Inv X pins σ (upd (upd H s.heap.objs.size (.tup [x, y])) (s.heap.objs.size + 1) (.tup [.int (i : Nat), .ref s.heap.objs.size])) { s with heap := h'', toks := s.toks + 1 } :=
      I1.turnedNew (ch := [e, z, TI, TO, i1, i2]) (fun c o hb q => (sb.2 c (fun z => hb (by simp [z]))).trans (k' c o (fun z => hb (by simp [z])) q)) hf1 (Nat.le_of_eq szm) new2
    refine ⟨.ref (s.heap.objs.size + 1), _, I2, rfl, ⟨_, _, x, y, rfl, I.hok.fresh (Nat.le_refl _), I.hok.fresh (Nat.le_succ _), Nat.ne_of_lt (Nat.lt_succ_self _), rfl, fun l hl => by rw [I.list_inj hl hqx]; exact hx, fun l hl => by rw [I.list_inj hl hqy]; exact hy⟩,
      ⟨⟨.ref s.heap.objs.size, ?_⟩, ?_, (sb.2 _ N.TI.symm).trans hTI', ?_, h1'.at fun o q => (sb.2 _ N.i1.symm).trans q, h2'.at fun o q => (sb.2 _ N.i2.symm).trans q⟩, fun c hcm => ?_⟩
    · have e1 : ((i + 1 : Nat) : Int) = (i : Int) + 1 := by omega
      rw [e1]; exact he''
    · obtain ⟨f0, f, q, q'⟩ := hz'
      exact ⟨f0, f, (sb.2 _ N.z.symm).trans q, q'⟩
    · obtain ⟨a', b', q⟩ := hTO'
      exact ⟨a', b', (sb.2 _ N.TO.symm).trans q⟩
    · rw [upd_ne (Nat.ne_of_lt (Nat.lt_succ_of_lt (lt c hcm))), upd_ne (Nat.ne_of_lt (lt c hcm))]
      exact (hf c hcm).1
  done := by
    intro X hP hw hK hc i pins s σ H E I hf st hg
    subst hP hw hK
    obtain ⟨⟨old, he⟩, hz, hTI, hTO, h1, h2⟩ := st
    obtain ⟨xs, ys, hqx, hqy, hend⟩ := hg
    obtain ⟨its, rv, p, _⟩ := I.list hqx
    obtain ⟨its2, rv2, p2, _⟩ := I.list hqy
    have l1 := rv.length
    have l2 := rv2.length
    have he' : its.toArray[i]? = none ∨ its2.toArray[i]? = none := by
      rcases hend with q | q
      · exact .inl (by simp; omega)
      · exact .inr (by simp; omega)
    exact enumZip_end (I.ok.hd hc) D he hz hTI hTO h1 h2 p.isList p2.isList he' fun h' hk => ⟨rfl, I.turnedL (t' := s.toks) (ch := [e, z, TI, TO, i1, i2]) (fun c o hb q =>
      hk c o (fun q' => hb (by simp [q'])) (fun q' => hb (by simp [q'])) (fun q' => hb (by simp [q'])) (fun q' => hb (by simp [q'])) q) hf⟩
  self := fun A i s Q E st h => let ⟨⟨_, he⟩, _⟩ := st; wpAny_pyIter_enum he h
def iEnumZip (K : PySem.W.Frag) (ta : TA) : TI := fun σ H R => ta σ H fun vs H1 => ∃ a b xs ys, vs = [.ref a, .ref b] ∧ SqL K H1 a xs ∧ SqL K H1 b ys ∧ R (Itez K a b) H1
theorem pi_enumZip {X : Cx} {e e2 : Expr} {ta : TA} {p p2 q pos tpos : Pos} {elts : List Expr} {kk : Nat} (hg : Gl X "enumerate") (hm : X.mg "enumerate" = none) (hg2 : Gl X "zip") (hm2 : X.mg "zip" = none) (ha : PA X [e, e2] ta)
    (na : starEach [.Call (.Name "zip" p2) [e, e2] [] q] X.env = [(false, eval (.Call (.Name "zip" p2) [e, e2] [] q) X.env)] := by rfl)
    (hs : starEach [e, e2] X.env = (false, eval e X.env) :: starEach [e2] X.env := by rfl) (hpl : (backTo q (starEach [e2] X.env)).any (·.1) = false := by rfl) :
    PI X (.Tuple elts kk tpos) (.Call (.Name "enumerate" p) [.Call (.Name "zip" p2) [e, e2] [] q] [] pos) (iEnumZip X.K ta) := by
  refine ⟨fun pins s σ H R I h => ?_⟩
  refine Call_ (ld_blt I hg hm boot_enumerate (PyProof.Rows.callWith_type1 (PyProof.Rows.args_cons ?_ rfl) na rfl))
  refine Call_ (ld_blt I hg2 hm2 PyProof.Rows.boot_zip (PyProof.Rows.callWith_type1 (thn (ha.run q pins s σ H _ I h) fun us s1 ⟨vs, H1, I1, r1, q1⟩ => ?_) hs hpl))
  obtain ⟨a, b, xs, ys, ex, hqx, hqy, q1⟩ := q1
  subst ex
  cases r1 with
  | cons r rr =>
    cases rr with
    | cons r' rr =>
      cases rr
      cases r
      cases r'
      obtain ⟨its, rv, p1, _⟩ := I1.list hqx
      obtain ⟨its2, rv2, p2, _⟩ := I1.list hqy
      have la : a < s1.heap.objs.size := p1.lt
      have lb : b < s1.heap.objs.size := p2.lt
      refine call_zip_2 p1.isList p2.isList fun h' hz hTI hTO h1 h2 hsz hk => PyProof.Rows.args_nil ?_
      refine call_enumerate_zip (s := { s1 with heap := h' }) hz fun h'' he hsz2 hk2 => wpAny_pyIter_enum he ?_
      replace hk2 : ∀ b o, h'.get? b = some o → h''.get? b = some o := hk2
      have I2 : Inv X pins σ H1 { s1 with heap := h'' } := I1.kept (t' := s1.toks) fun b o z => hk2 b o (hk b o z)
      have hE : h'.objs.size = s1.heap.objs.size + 5 := hsz
      have N : EZ h'.objs.size (s1.heap.objs.size + 4) (s1.heap.objs.size + 2) (s1.heap.objs.size + 3) s1.heap.objs.size (s1.heap.objs.size + 1) := by
        rw [hE]
        constructor <;> (intro z; have z' : (_ : Nat) = _ := z; omega)
      refine ⟨h'.objs.size, [h'.objs.size, s1.heap.objs.size + 4, s1.heap.objs.size + 2, s1.heap.objs.size + 3, s1.heap.objs.size, s1.heap.objs.size + 1], _, _, H1, rfl, I2, turn_enumZip (PySem.W.ktu_apart s1.heap.objs.size a b la lb) N,
        ⟨⟨.none, he⟩, ⟨.none, false, hk2 _ _ hz, .inl rfl⟩, hk2 _ _ hTI, ⟨_, _, hk2 _ _ hTO⟩, h1.at fun o q => hk2 _ o q, h2.at fun o q => hk2 _ o q⟩, fun c hcm => ?_, q1⟩
      have e' : c = h'.objs.size ∨ c = s1.heap.objs.size + 4 ∨ c = s1.heap.objs.size + 2 ∨ c = s1.heap.objs.size + 3 ∨ c = s1.heap.objs.size ∨ c = s1.heap.objs.size + 1 := by simpa using hcm
      have hle : s1.heap.objs.size ≤ c := by
        rcases e' with z | z | z | z | z | z
        · rw [z, hE]; exact Nat.le_add_right _ _
        · rw [z]; exact Nat.le_add_right _ _
        · rw [z]; exact Nat.le_add_right _ _
        · rw [z]; exact Nat.le_add_right _ _
        · rw [z]; exact Nat.le_refl _
        · rw [z]; exact Nat.le_add_right _ _
      exact I1.fpOk hle (I1.hok.fresh hle)
end Lm

namespace Lm
open PySem L2 Evl RZ
def rIsN : R2 := fun x y H Q => y = .non ∧ Q (.bl (decide (x = .non))) H
def rNotN : R2 := fun x y H Q => y = .non ∧ Q (.bl (!decide (x = .non))) H
theorem op_isN1 {X : Cx} : OpR X (compareOp .Is) rIsN := op_isN
theorem op_notN1 {X : Cx} : OpR X (compareOp .IsNot) rNotN := op_notN
theorem pi_or {X : Cx} {tg e : Expr} {w w' : TI} (h : PI X tg e w) (h' : PI X tg e w') : PI X tg e (fun σ H R => w σ H R ∨ w' σ H R) := ⟨fun pins s σ H R I q => q.elim (h.run pins s σ H R I) (h'.run pins s σ H R I)⟩
theorem for_EZ {K : PySem.W.Frag} {a b : Addr} {xs ys : List V} {g : TG} {tb : TS} {D : Ends} {σ : L2.St} {H : Hp} (hl : xs.length = ys.length) (Pv : Nat → L2.St → Hp → Prop) (h0 : Pv 0 σ H) (hq : ∀ i σ H, Pv i σ H → SqL K H a xs ∧ SqL K H b ys)
    (hs : ∀ (i : Nat) (x y : V) (B T : Addr) (σ : L2.St) (H : Hp), xs[i]? = some x → ys[i]? = some y → Pv i σ H → H B = none → H T = none → B ≠ T → g (.ref T) σ (upd (upd H B (.tup [x, y])) T (.tup [.int (i : Nat), .ref B])) fun σ2 H2 => tb { D with nx := Pv (i + 1), ct := Pv (i + 1), bk := D.nx } σ2 H2) (hd : ∀ σ H, Pv xs.length σ H → D.nx σ H) :
    ∃ W : Nat → Nat → L2.St → Hp → Prop, (∃ m, W 0 m σ H) ∧ ∀ i m σ H, W i m σ H →
      ((Itez K a b).stop i H ∧ D.nx σ H) ∨ ((Itez K a b).go i H ∧ ∃ N : L2.St → Hp → Prop, (∀ σ' H', N σ' H' → ∃ m', m' < m ∧ W (i + 1) m' σ' H') ∧ ∀ v H', (Itez K a b).yld i H v H' → g v σ H' fun σ2 H2 => tb { D with nx := N, ct := N, bk := D.nx } σ2 H2) := by
  refine ⟨fun i m σ H => m = xs.length - i ∧ i ≤ xs.length ∧ Pv i σ H, ⟨xs.length, rfl, Nat.zero_le _, h0⟩, ?_⟩
  rintro i m σ H ⟨rfl, hi, p⟩
  obtain ⟨qx, qy⟩ := hq i σ H p
  by_cases hlt : i < xs.length
  · have hx : xs[i]? = some xs[i] := List.getElem?_eq_getElem hlt
    have hlt2 : i < ys.length := by omega
    have hy : ys[i]? = some ys[i] := List.getElem?_eq_getElem hlt2
    refine .inr ⟨⟨xs, ys, _, _, qx, qy, hx, hy⟩, Pv (i + 1), fun σ' H' p' => ⟨xs.length - (i + 1), by omega, rfl, hlt, p'⟩, fun v H' y => ?_⟩
    obtain ⟨B, T, x', y', rfl, hB, hT, hBT, rfl, f1, f2⟩ := y
    exact hs i x' y' B T σ H (f1 xs qx) (f2 ys qy) p hB hT hBT
  · have e : i = xs.length := by omega
    subst e
    exact .inl ⟨⟨xs, ys, qx, qy, Or.inl (Nat.le_refl _)⟩, hd σ H p⟩
/-- for i, (x, y) in enumerate(zip(a, b)): -/
theorem s_forEZ {K : PySem.W.Frag} {a b : Addr} {xs ys : List V} {ta : TA} {i j k : Nat} {tu : TS} {D : Ends} {σ : L2.St} {H : Hp} (h : EvA ta σ H [.ref a, .ref b]) (ha : H a = some (.lst xs)) (hb : H b = some (.lst ys)) (hl : xs.length = ys.length) (Pv : Nat → L2.St → Hp → Prop) (h0 : ∀ H1, Ex H H1 → Pv 0 σ H1)
    (hq : ∀ i σ' H', Pv i σ' H' → Ex H H') (hs : ∀ (n : Nat) (x y : V) (σ' : L2.St) (H' H2 : Hp), xs[n]? = some x → ys[n]? = some y → Pv n σ' H' → Ex H' H2 → tu { D with nx := Pv (n + 1), ct := Pv (n + 1), bk := D.nx } (((σ'.set i (some (.int (n : Nat)))).set j (some x)).set k (some y)) H2)
    (hd : ∀ σ' H', Pv xs.length σ' H' → D.nx σ' H') : tFor (iEnumZip K ta) (gTup K 2 (gCons (gName i) (gCons (gTup K 2 (gCons (gName j) (gCons (gName k) gNil))) gNil))) tu D σ H :=
  h H (Ex.refl H) _ fun H1 e => ⟨a, b, xs, ys, rfl, SqL.of (e _ _ ha), SqL.of (e _ _ hb), for_EZ hl Pv (h0 H1 e) (fun i σ' H' p => ⟨SqL.of (hq i σ' H' p _ _ ha), SqL.of (hq i σ' H' p _ _ hb)⟩) (fun n x y B T σ' H' hx hy p hB hT hBT => by
    have h1 : (upd (upd H' B (.tup [x, y])) T (.tup [.int (n : Nat), .ref B])) B = some (.tup [x, y]) := by rw [upd_ne hBT, upd_same]
    have e2 : Ex H' (upd (upd H' B (.tup [x, y])) T (.tup [.int (n : Nat), .ref B])) := Ex.trans (Ex.new hB) (Ex.new (by rw [upd_ne hBT.symm]; exact hT))
    exact ⟨T, _, rfl, SqT.of upd_same, rfl, _, _, rfl, _, _, rfl, ⟨B, _, rfl, SqT.of h1, rfl, _, _, rfl, _, _, rfl, rfl, ⟨rfl, hs n x y σ' H' _ hx hy p e2⟩⟩⟩) hd⟩
theorem q_forEZ {K : PySem.W.Frag} {a b : Addr} {xs ys : List V} {ta : TA} {i j k : Nat} {tu tz : TS} {D : Ends} {σ : L2.St} {H : Hp} (h : EvA ta σ H [.ref a, .ref b]) (ha : H a = some (.lst xs)) (hb : H b = some (.lst ys)) (hl : xs.length = ys.length) (Pv : Nat → L2.St → Hp → Prop) (h0 : ∀ H1, Ex H H1 → Pv 0 σ H1)
    (hq : ∀ i σ' H', Pv i σ' H' → Ex H H') (hs : ∀ (n : Nat) (x y : V) (σ' : L2.St) (H' H2 : Hp), xs[n]? = some x → ys[n]? = some y → Pv n σ' H' → Ex H' H2 → tu { D with nx := Pv (n + 1), ct := Pv (n + 1), bk := tz D } (((σ'.set i (some (.int (n : Nat)))).set j (some x)).set k (some y)) H2)
    (hd : ∀ σ' H', Pv xs.length σ' H' → tz D σ' H') : tSeq (tFor (iEnumZip K ta) (gTup K 2 (gCons (gName i) (gCons (gTup K 2 (gCons (gName j) (gCons (gName k) gNil))) gNil))) tu) tz D σ H := s_forEZ (D := { D with nx := tz D }) h ha hb hl Pv h0 hq hs hd
end Lm

/-! R20: zip of three lists; zip of a list and a tuple. -/
namespace Lm
open PySem PySem.Spec PyProof.Rows L2 Evl RZ
/-- the lists at a, b and c as they stand at each turn, the items in new triples -/
def Itz3 (K : PySem.W.Frag) (a b c : Addr) : It :=
  ⟨fun i H => ∃ (xs ys us : List V) (x y u : V), SqL K H a xs ∧ SqL K H b ys ∧ SqL K H c us ∧ xs[i]? = some x ∧ ys[i]? = some y ∧ us[i]? = some u,
    fun i H v H' => ∃ T x y u, v = .ref T ∧ H T = none ∧ H' = upd H T (.tup [x, y, u]) ∧ (∀ xs, SqL K H a xs → xs[i]? = some x) ∧ (∀ ys, SqL K H b ys → ys[i]? = some y) ∧ ∀ us, SqL K H c us → us[i]? = some u,
    fun i H => ∃ xs ys us : List V, SqL K H a xs ∧ SqL K H b ys ∧ SqL K H c us ∧ i ≤ xs.length ∧ i ≤ ys.length ∧ i ≤ us.length ∧ (i = xs.length ∨ i = ys.length ∨ i = us.length)⟩
theorem turn_zip3 {P : Program} {w : World} {K : PySem.W.Frag} {elts : List Expr} {kk : Nat} {tpos : Pos} {a b c z TI TO i1 i2 i3 : Addr} (S : ZipSep3 z TI TO i1 i2 i3 [i1, a] [i2, b] [i3, c]) (n1 : a ≠ i1) (n2 : b ≠ i2) (n3 : c ≠ i3) :
    Turn P w K (.Tuple elts kk tpos) (Itz3 K a b c) [z, TI, TO, i1, i2, i3] z (fun i h => IsZip h z TI TO .none ∧ IsTupOf3 h TI (.ref i1) (.ref i2) (.ref i3) ∧ (∃ x y u, IsTupOf3 h TO x y u) ∧ h.IsListIter i1 a i ∧ h.IsListIter i2 b i ∧ h.IsListIter i3 c i) where
  mem := by simp
  obj := fun i h st d hd => by
    obtain ⟨hz, hTI, ⟨x, y, u, hTO⟩, ⟨o1, e1, _, d1⟩, ⟨o2, e2, _, d2⟩, ⟨o3, e3, _, d3⟩⟩ := st
    have e' : d = z ∨ d = TI ∨ d = TO ∨ d = i1 ∨ d = i2 ∨ d = i3 := by simpa using hd
    rcases e' with q | q | q | q | q | q
    · rw [q]; exact ⟨_, hz, fun v q => nomatch q⟩
    · rw [q]; exact ⟨_, hTI, fun v q => nomatch q⟩
    · rw [q]; exact ⟨_, hTO, fun v q => nomatch q⟩
    · rw [q]; exact ⟨o1, e1, fun v q => by rw [d1] at q; cases q⟩
    · rw [q]; exact ⟨o2, e2, fun v q => by rw [d2] at q; cases q⟩
    · rw [q]; exact ⟨o3, e3, fun v q => by rw [d3] at q; cases q⟩
  keep := fun i h h' st k => by
    obtain ⟨hz, hTI, ⟨x, y, u, hTO⟩, h1, h2, h3⟩ := st
    exact ⟨k z (by simp) _ hz, k TI (by simp) _ hTI, ⟨x, y, u, k TO (by simp) _ hTO⟩, h1.at fun o q => k i1 (by simp) o q, h2.at fun o q => k i2 (by simp) o q, h3.at fun o q => k i3 (by simp) o q⟩
  item := by
    intro X hP hw hK hc i pins s σ H E I hf st hg
    subst hP hw hK
    obtain ⟨hz, hTI, ⟨x0, y0, u0, hTO⟩, h1, h2, h3⟩ := st
    obtain ⟨xs, ys, us, x, y, u, hqx, hqy, hqu, hx, hy, hu⟩ := hg
    obtain ⟨its, rv, p, _⟩ := I.list hqx
    obtain ⟨its2, rv2, p2, _⟩ := I.list hqy
    obtain ⟨its3, rv3, p3, _⟩ := I.list hqu
    obtain ⟨v1, hv1, ru1⟩ := rv.get hx
    obtain ⟨v2, hv2, ru2⟩ := rv2.get hy
    obtain ⟨v3, hv3, ru3⟩ := rv3.get hu
    have hzl : z < s.heap.objs.size := Heap.lt_size hz
    have hh : X.A.in1.handled = none := I.ok.hd hc
    have b1 : i < its.toArray.size := by simpa using (List.getElem?_eq_some_iff.mp hv1).1
    have b2 : i < its2.toArray.size := by simpa using (List.getElem?_eq_some_iff.mp hv2).1
    have b3 : i < its3.toArray.size := by simpa using (List.getElem?_eq_some_iff.mp hv3).1
    refine wpAny_pyNext_zipD3_item S (Draws.list hh i1 a n1 its.toArray) (Draws.list hh i2 b n2 its2.toArray) (Draws.list hh i3 c n3 its3.toArray) hz hTI hTO ⟨h1, p.isList⟩ ⟨h2, p2.isList⟩ ⟨h3, p3.isList⟩ b1 b2 b3 fun y1 y2 y3 h' tk q1 q2 q3 z' TO' h1' h2' h3' hT hsz hk => ?_
    have e1 : y1 = v1 := by
      have : its[i]? = some y1 := by simpa using q1
      rw [hv1] at this; exact (Option.some.inj this).symm
    have e2 : y2 = v2 := by
      have : its2[i]? = some y2 := by simpa using q2
      rw [hv2] at this; exact (Option.some.inj this).symm
    have e3 : y3 = v3 := by
      have : its3[i]? = some y3 := by simpa using q3
      rw [hv3] at this; exact (Option.some.inj this).symm
    subst e1 e2 e3
    refine ⟨_, rfl, wpAny_letOwnedTupleGo_zip (s := { s with heap := h', toks := tk }) z' fun h'' z'' sb => ?_⟩
    replace sb : Heap.SameBut z h' h'' := sb
    have hT2 : h''.get? s.heap.objs.size = some { cls := .type "tuple", data := .seq #[y1, y2, y3] } := (sb.2 _ (Nat.ne_of_gt hzl)).trans hT
    have new : ObjOk X.prog X.w (upd H s.heap.objs.size (.tup [x, y, u])) h'' s.heap.objs.size (.tup [x, y, u]) :=
      ⟨by show 3 ≤ sizeLine; decide, [y1, y2, y3], .cons ru1 (.cons ru2 (.cons ru3 .nil)), ⟨_, hT2, rfl, _, rfl⟩⟩
    have I1 : Inv X pins σ (upd H s.heap.objs.size (.tup [x, y, u])) { s with heap := h'', toks := tk } :=
      I.turnedNew (ch := [z, TI, TO, i1, i2, i3]) (fun d o hb q => (sb.2 d (fun q' => hb (by simp [q']))).trans (hk d o (fun q' => hb (by simp [q'])) (fun q' => hb (by simp [q'])) (fun q' => hb (by simp [q'])) (fun q' => hb (by simp [q'])) (fun q' => hb (by simp [q'])) q)) hf (Nat.le_refl _) new
    refine ⟨.ref s.heap.objs.size, _, I1, rfl, ⟨_, x, y, u, rfl, I.hok.fresh (Nat.le_refl _), rfl, fun l hl => by rw [I.list_inj hl hqx]; exact hx, fun l hl => by rw [I.list_inj hl hqy]; exact hy, fun l hl => by rw [I.list_inj hl hqu]; exact hu⟩,
      ⟨z'', ?_, ⟨y1, y2, y3, ?_⟩, ?_, ?_, ?_⟩, fun d hdm => ?_⟩
    · exact (sb.2 _ S.TIz).trans (hk _ _ S.TIz S.TITO S.TIi1 S.TIi2 S.TIi3 hTI)
    · exact (sb.2 _ S.TOz).trans TO'
    · exact h1'.1.at fun o q => (sb.2 _ S.zi1.symm).trans q
    · exact h2'.1.at fun o q => (sb.2 _ S.zi2.symm).trans q
    · exact h3'.1.at fun o q => (sb.2 _ S.zi3.symm).trans q
    · have hlt : d < s.heap.objs.size := by
        have e' : d = z ∨ d = TI ∨ d = TO ∨ d = i1 ∨ d = i2 ∨ d = i3 := by simpa using hdm
        rcases e' with q | q | q | q | q | q
        · rw [q]; exact hzl
        · rw [q]; exact Heap.lt_size hTI
        · rw [q]; exact Heap.lt_size hTO
        · rw [q]; obtain ⟨_, e1, _⟩ := h1; exact Heap.lt_size e1
        · rw [q]; obtain ⟨_, e2, _⟩ := h2; exact Heap.lt_size e2
        · rw [q]; obtain ⟨_, e3, _⟩ := h3; exact Heap.lt_size e3
      rw [upd_ne (Nat.ne_of_lt hlt)]
      exact (hf d hdm).1
  done := by
    intro X hP hw hK hc i pins s σ H E I hf st hg
    subst hP hw hK
    obtain ⟨hz, hTI, ⟨x0, y0, u0, hTO⟩, h1, h2, h3⟩ := st
    obtain ⟨xs, ys, us, hqx, hqy, hqu, l1, l2, l3, hend⟩ := hg
    obtain ⟨its, rv, p, _⟩ := I.list hqx
    obtain ⟨its2, rv2, p2, _⟩ := I.list hqy
    obtain ⟨its3, rv3, p3, _⟩ := I.list hqu
    have m1 : its.toArray.size = xs.length := by simpa using rv.length.symm
    have m2 : its2.toArray.size = ys.length := by simpa using rv2.length.symm
    have m3 : its3.toArray.size = us.length := by simpa using rv3.length.symm
    have hh : X.A.in1.handled = none := I.ok.hd hc
    exact wpAny_pyNext_zipD3_end S (Draws.list hh i1 a n1 its.toArray) (Draws.list hh i2 b n2 its2.toArray) (Draws.list hh i3 c n3 its3.toArray) hz hTI hTO ⟨h1, p.isList⟩ ⟨h2, p2.isList⟩ ⟨h3, p3.isList⟩ (by omega) (by omega) (by omega) (by omega)
      fun h' tk hk => ⟨rfl, I.turnedL (t' := tk) (ch := [z, TI, TO, i1, i2, i3]) (fun d o hb q => hk d o (fun q' => hb (by simp [q'])) (fun q' => hb (by simp [q'])) (fun q' => hb (by simp [q'])) (fun q' => hb (by simp [q'])) (fun q' => hb (by simp [q'])) q) hf⟩
  self := fun A i s Q E st h => wpAny_pyIter_zip st.1 h
def iZip3 (K : PySem.W.Frag) (ta : TA) : TI := fun σ H R => ta σ H fun vs H1 => ∃ a b c xs ys us, vs = [.ref a, .ref b, .ref c] ∧ SqL K H1 a xs ∧ SqL K H1 b ys ∧ SqL K H1 c us ∧ R (Itz3 K a b c) H1
theorem pi_zip3 {X : Cx} {e e2 e3 : Expr} {ta : TA} {p pos tpos : Pos} {elts : List Expr} {kk : Nat} (hg : Gl X "zip") (hm : X.mg "zip" = none) (ha : PA X [e, e2, e3] ta)
    (hs : starEach [e, e2, e3] X.env = (false, eval e X.env) :: starEach [e2, e3] X.env := by rfl) (hpl : (backTo pos (starEach [e2, e3] X.env)).any (·.1) = false := by rfl) :
    PI X (.Tuple elts kk tpos) (.Call (.Name "zip" p) [e, e2, e3] [] pos) (iZip3 X.K ta) := by
  refine ⟨fun pins s σ H R I h => ?_⟩
  refine Call_ (ld_blt I hg hm PyProof.Rows.boot_zip (PyProof.Rows.callWith_type1 (thn (ha.run pos pins s σ H _ I h) fun us s1 ⟨vs, H1, I1, r1, q1⟩ => ?_) hs hpl))
  obtain ⟨a, b, c, xs, ys, zs, ex, hqx, hqy, hqz, q⟩ := q1
  subst ex
  cases r1 with
  | cons r rr =>
    cases rr with
    | cons r' rr =>
      cases rr with
      | cons r'' rr =>
        cases rr
        cases r
        cases r'
        cases r''
        obtain ⟨its, rv, p1, _⟩ := I1.list hqx
        obtain ⟨its2, rv2, p2, _⟩ := I1.list hqy
        obtain ⟨its3, rv3, p3, _⟩ := I1.list hqz
        have la : a < s1.heap.objs.size := p1.lt
        have lb : b < s1.heap.objs.size := p2.lt
        have lc : c < s1.heap.objs.size := p3.lt
        refine zip_begins3 (begins_list a its.toArray) (begins_list b its2.toArray) (begins_list c its3.toArray) p1.isList p2.isList p3.isList fun h' hz hTI hTO h1 h2 h3 hsz hk => wpAny_pyIter_zip hz ?_
        have I2 : Inv X pins σ H1 { s1 with heap := h' } := I1.kept (t' := s1.toks) hk
        have one : ∀ (d N : Addr), d < N → ∀ x ∈ [d], x < N := fun d N hd x hx => by rw [List.mem_singleton.mp hx]; exact hd
        refine ⟨s1.heap.objs.size + 5, [s1.heap.objs.size + 5, s1.heap.objs.size + 3, s1.heap.objs.size + 4, s1.heap.objs.size, s1.heap.objs.size + 1, s1.heap.objs.size + 2], _, _, H1, rfl, I2,
          turn_zip3 (zip_sep3 (fp1 := [a]) (fp2 := [b]) (fp3 := [c]) (one _ _ la) (one _ _ lb) (one _ _ lc)) (Nat.ne_of_lt la) (Nat.ne_of_lt (Nat.lt_succ_of_lt lb)) (Nat.ne_of_lt (Nat.lt_succ_of_lt (Nat.lt_succ_of_lt lc))), ⟨hz, hTI, ⟨_, _, _, hTO⟩, ⟨_, h1, rfl, rfl⟩, ⟨_, h2, rfl, rfl⟩, ⟨_, h3, rfl, rfl⟩⟩, fun d hdm => ?_, q⟩
        have e' : d = s1.heap.objs.size + 5 ∨ d = s1.heap.objs.size + 3 ∨ d = s1.heap.objs.size + 4 ∨ d = s1.heap.objs.size ∨ d = s1.heap.objs.size + 1 ∨ d = s1.heap.objs.size + 2 := by simpa using hdm
        have hle : s1.heap.objs.size ≤ d := by
          rcases e' with z | z | z | z | z | z
          · rw [z]; exact Nat.le_add_right _ _
          · rw [z]; exact Nat.le_add_right _ _
          · rw [z]; exact Nat.le_add_right _ _
          · rw [z]; exact Nat.le_refl _
          · rw [z]; exact Nat.le_add_right _ _
          · rw [z]; exact Nat.le_add_right _ _
        exact I1.fpOk hle (I1.hok.fresh hle)
/-! ### a list and a tuple -/
def ItzM (K : PySem.W.Frag) (a b : Addr) : It :=
  ⟨fun i H => ∃ (xs ys : List V) (x y : V), SqL K H a xs ∧ SqT K H b ys ∧ xs[i]? = some x ∧ ys[i]? = some y,
    fun i H v H' => ∃ T x y, v = .ref T ∧ H T = none ∧ H' = upd H T (.tup [x, y]) ∧ (∀ xs, SqL K H a xs → xs[i]? = some x) ∧ ∀ ys, SqT K H b ys → ys[i]? = some y,
    fun i H => ∃ xs ys : List V, SqL K H a xs ∧ SqT K H b ys ∧ i ≤ xs.length ∧ i ≤ ys.length ∧ (i = xs.length ∨ i = ys.length)⟩
theorem turn_zipM {P : Program} {w : World} {K : PySem.W.Frag} {elts : List Expr} {kk : Nat} {tpos : Pos} {a b z TI TO i1 i2 : Addr} (S : ZipSep2 z TI TO i1 i2 [i1, a] [i2, b]) (n1 : a ≠ i1) (n2 : b ≠ i2) :
    Turn P w K (.Tuple elts kk tpos) (ItzM K a b) [z, TI, TO, i1, i2] z (fun i h => IsZip h z TI TO .none ∧ IsTupOf2 h TI (.ref i1) (.ref i2) ∧ (∃ x y, IsTupOf2 h TO x y) ∧ h.IsListIter i1 a i ∧ h.IsTupleIter i2 b i) where
  mem := by simp
  obj := fun i h st d hd => by
    obtain ⟨hz, hTI, ⟨x, y, hTO⟩, ⟨o1, e1, _, d1⟩, ⟨o2, e2, _, d2⟩⟩ := st
    have e' : d = z ∨ d = TI ∨ d = TO ∨ d = i1 ∨ d = i2 := by simpa using hd
    rcases e' with q | q | q | q | q
    · rw [q]; exact ⟨_, hz, fun v q => nomatch q⟩
    · rw [q]; exact ⟨_, hTI, fun v q => nomatch q⟩
    · rw [q]; exact ⟨_, hTO, fun v q => nomatch q⟩
    · rw [q]; exact ⟨o1, e1, fun v q => by rw [d1] at q; cases q⟩
    · rw [q]; exact ⟨o2, e2, fun v q => by rw [d2] at q; cases q⟩
  keep := fun i h h' st k => by
    obtain ⟨hz, hTI, ⟨x, y, hTO⟩, h1, h2⟩ := st
    exact ⟨k z (by simp) _ hz, k TI (by simp) _ hTI, ⟨x, y, k TO (by simp) _ hTO⟩, h1.at fun o q => k i1 (by simp) o q, h2.at fun o q => k i2 (by simp) o q⟩
  item := by
    intro X hP hw hK hc i pins s σ H E I hf st hg
    subst hP hw hK
    obtain ⟨hz, hTI, ⟨x0, y0, hTO⟩, h1, h2⟩ := st
    obtain ⟨xs, ys, x, y, hqx, hqy, hx, hy⟩ := hg
    obtain ⟨its, rv, p, _⟩ := I.list hqx
    obtain ⟨its2, rv2, p2, _⟩ := I.tuple hqy
    obtain ⟨v1, hv1, ru1⟩ := rv.get hx
    obtain ⟨v2, hv2, ru2⟩ := rv2.get hy
    have hzl : z < s.heap.objs.size := Heap.lt_size hz
    have hh : X.A.in1.handled = none := I.ok.hd hc
    have b1 : i < its.toArray.size := by simpa using (List.getElem?_eq_some_iff.mp hv1).1
    have b2 : i < its2.toArray.size := by simpa using (List.getElem?_eq_some_iff.mp hv2).1
    refine wpAny_pyNext_zipD2_item S (Draws.list hh i1 a n1 its.toArray) (Draws.tuple hh i2 b n2 its2.toArray) hz hTI hTO ⟨h1, p.isList⟩ ⟨h2, p2⟩ b1 b2 fun y1 y2 h' tk q1 q2 z' TO' h1' h2' hT hsz hk => ?_
    have e1 : y1 = v1 := by
      have : its[i]? = some y1 := by simpa using q1
      rw [hv1] at this; exact (Option.some.inj this).symm
    have e2 : y2 = v2 := by
      have : its2[i]? = some y2 := by simpa using q2
      rw [hv2] at this; exact (Option.some.inj this).symm
    subst e1 e2
    refine ⟨_, rfl, wpAny_letOwnedTupleGo_zip (s := { s with heap := h', toks := tk }) z' fun h'' z'' sb => ?_⟩
    replace sb : Heap.SameBut z h' h'' := sb
    have hT2 : h''.get? s.heap.objs.size = some { cls := .type "tuple", data := .seq #[y1, y2] } := (sb.2 _ (Nat.ne_of_gt hzl)).trans hT
    have new : ObjOk X.prog X.w (upd H s.heap.objs.size (.tup [x, y])) h'' s.heap.objs.size (.tup [x, y]) :=
      ⟨by show 2 ≤ sizeLine; decide, [y1, y2], .cons ru1 (.cons ru2 .nil), ⟨_, hT2, rfl, _, rfl⟩⟩
    have I1 : Inv X pins σ (upd H s.heap.objs.size (.tup [x, y])) { s with heap := h'', toks := tk } :=
      I.turnedNew (ch := [z, TI, TO, i1, i2]) (fun d o hb q => (sb.2 d (fun q' => hb (by simp [q']))).trans (hk d o (fun q' => hb (by simp [q'])) (fun q' => hb (by simp [q'])) (fun q' => hb (by simp [q'])) (fun q' => hb (by simp [q'])) q)) hf (Nat.le_refl _) new
    refine ⟨.ref s.heap.objs.size, _, I1, rfl, ⟨_, x, y, rfl, I.hok.fresh (Nat.le_refl _), rfl, fun l hl => by rw [I.list_inj hl hqx]; exact hx, fun l hl => by rw [I.tuple_inj hl hqy]; exact hy⟩,
      ⟨z'', ?_, ⟨y1, y2, ?_⟩, ?_, ?_⟩, fun d hdm => ?_⟩
    · exact (sb.2 _ S.TIz).trans (hk _ _ S.TIz S.TITO S.TIi1 S.TIi2 hTI)
    · exact (sb.2 _ S.TOz).trans TO'
    · exact h1'.1.at fun o q => (sb.2 _ S.zi1.symm).trans q
    · exact h2'.1.at fun o q => (sb.2 _ S.zi2.symm).trans q
    · have hlt : d < s.heap.objs.size := by
        have e' : d = z ∨ d = TI ∨ d = TO ∨ d = i1 ∨ d = i2 := by simpa using hdm
        rcases e' with q | q | q | q | q
        · rw [q]; exact hzl
        · rw [q]; exact Heap.lt_size hTI
        · rw [q]; exact Heap.lt_size hTO
        · rw [q]; obtain ⟨_, e1, _⟩ := h1; exact Heap.lt_size e1
        · rw [q]; obtain ⟨_, e2, _⟩ := h2; exact Heap.lt_size e2
      rw [upd_ne (Nat.ne_of_lt hlt)]
      exact (hf d hdm).1
  done := by
    intro X hP hw hK hc i pins s σ H E I hf st hg
    subst hP hw hK
    obtain ⟨hz, hTI, ⟨x0, y0, hTO⟩, h1, h2⟩ := st
    obtain ⟨xs, ys, hqx, hqy, l1, l2, hend⟩ := hg
    obtain ⟨its, rv, p, _⟩ := I.list hqx
    obtain ⟨its2, rv2, p2, _⟩ := I.tuple hqy
    have m1 : its.toArray.size = xs.length := by simpa using rv.length.symm
    have m2 : its2.toArray.size = ys.length := by simpa using rv2.length.symm
    have hh : X.A.in1.handled = none := I.ok.hd hc
    exact wpAny_pyNext_zipD2_end S (Draws.list hh i1 a n1 its.toArray) (Draws.tuple hh i2 b n2 its2.toArray) hz hTI hTO ⟨h1, p.isList⟩ ⟨h2, p2⟩ (by omega) (by omega) (by omega)
      fun h' tk hk => ⟨rfl, I.turnedL (t' := tk) (ch := [z, TI, TO, i1, i2]) (fun d o hb q => hk d o (fun q' => hb (by simp [q'])) (fun q' => hb (by simp [q'])) (fun q' => hb (by simp [q'])) (fun q' => hb (by simp [q'])) q) hf⟩
  self := fun A i s Q E st h => wpAny_pyIter_zip st.1 h
def iZipM (K : PySem.W.Frag) (ta : TA) : TI := fun σ H R => ta σ H fun vs H1 => ∃ a b xs ys, vs = [.ref a, .ref b] ∧ SqL K H1 a xs ∧ SqT K H1 b ys ∧ R (ItzM K a b) H1
theorem pi_zipM {X : Cx} {e e2 : Expr} {ta : TA} {p pos tpos : Pos} {elts : List Expr} {kk : Nat} (hg : Gl X "zip") (hm : X.mg "zip" = none) (ha : PA X [e, e2] ta)
    (hs : starEach [e, e2] X.env = (false, eval e X.env) :: starEach [e2] X.env := by rfl) (hpl : (backTo pos (starEach [e2] X.env)).any (·.1) = false := by rfl) :
    PI X (.Tuple elts kk tpos) (.Call (.Name "zip" p) [e, e2] [] pos) (iZipM X.K ta) := by
  refine ⟨fun pins s σ H R I h => ?_⟩
  refine Call_ (ld_blt I hg hm PyProof.Rows.boot_zip (PyProof.Rows.callWith_type1 (thn (ha.run pos pins s σ H _ I h) fun us s1 ⟨vs, H1, I1, r1, q1⟩ => ?_) hs hpl))
  obtain ⟨a, b, xs, ys, ex, hqx, hqy, q⟩ := q1
  subst ex
  cases r1 with
  | cons r rr =>
    cases rr with
    | cons r' rr =>
      cases rr
      cases r
      cases r'
      obtain ⟨its, rv, p1, _⟩ := I1.list hqx
      obtain ⟨its2, rv2, p2, _⟩ := I1.tuple hqy
      obtain ⟨o2, ho2, _⟩ := id p2
      have la : a < s1.heap.objs.size := p1.lt
      have lb : b < s1.heap.objs.size := Heap.lt_size ho2
      refine zip_begins2 (begins_list a its.toArray) (begins_tuple b its2.toArray) p1.isList p2 fun h' hz hTI hTO h1 h2 hsz hk => wpAny_pyIter_zip hz ?_
      have I2 : Inv X pins σ H1 { s1 with heap := h' } := I1.kept (t' := s1.toks) hk
      have one : ∀ (d N : Addr), d < N → ∀ x ∈ [d], x < N := fun d N hd x hx => by rw [List.mem_singleton.mp hx]; exact hd
      refine ⟨s1.heap.objs.size + 4, [s1.heap.objs.size + 4, s1.heap.objs.size + 2, s1.heap.objs.size + 3, s1.heap.objs.size, s1.heap.objs.size + 1], _, _, H1, rfl, I2,
        turn_zipM (zip_sep2 (fp1 := [a]) (fp2 := [b]) (one _ _ la) (one _ _ lb)) (Nat.ne_of_lt la) (Nat.ne_of_lt (Nat.lt_succ_of_lt lb)), ⟨hz, hTI, ⟨_, _, hTO⟩, ⟨_, h1, rfl, rfl⟩, ⟨_, h2, rfl, rfl⟩⟩, fun d hdm => ?_, q⟩
      have e' : d = s1.heap.objs.size + 4 ∨ d = s1.heap.objs.size + 2 ∨ d = s1.heap.objs.size + 3 ∨ d = s1.heap.objs.size ∨ d = s1.heap.objs.size + 1 := by simpa using hdm
      have hle : s1.heap.objs.size ≤ d := by
        rcases e' with z | z | z | z | z
        · rw [z]; exact Nat.le_add_right _ _
        · rw [z]; exact Nat.le_add_right _ _
        · rw [z]; exact Nat.le_add_right _ _
        · rw [z]; exact Nat.le_refl _
        · rw [z]; exact Nat.le_add_right _ _
      exact I1.fpOk hle (I1.hok.fresh hle)
end Lm

namespace Lm
open PySem L2
def top (i : Nat) : Stmt := PySem.Challenge.pw_leafmarks_k01_errors_made.main.body.getD i (.Pass ⟨0, 0, 0, 0⟩)
end Lm

namespace Lm
open PySem L2
/-- what the walk asks of the built-in names -/
structure Blt (mg : Str → Option Value) : Prop where
  b_len : mg "len" = none
  b_int : mg "int" = none
  b_range : mg "range" = none
  b_enumerate : mg "enumerate" = none
  b_isinstance : mg "isinstance" = none
  b_list : mg "list" = none
  b_tuple : mg "tuple" = none
  b_str : mg "str" = none
  b_bool : mg "bool" = none
  b_all : mg "all" = none
  b_max : mg "max" = none
  b_zip : mg "zip" = none
section
variable {P : Program} {w : World} {K : PySem.W.Frag} {mg : Str → Option Value} {base : Heap} {f : Addr} {fd : FuncData}
def spFresh (K : PySem.W.Frag) : Sp := fun vs H Q _ => ∃ (a : Addr) (ns : List Int), vs = [.ref a] ∧ SqL K H a (ns.map V.int) ∧ ns.length ≤ 63 ∧ ∀ p c H', H p = none → H c = none → Same H H' → StAt H' p c → Q (.ref p) H'
abbrev s_fresh : Stmt := top 20
theorem sc_fresh : FnScope ["_law_script"] ["_law_script"] (defScope s_fresh) := ⟨rfl, rfl, rfl, by decide +kernel, rfl, by decide +kernel, by decide +kernel⟩
theorem ok_fresh (F : Fun K "_law_fresh" "_law_fresh" s_fresh f fd) (T : Blt mg) : FnOk P w K mg base CX0 1 f fd ["_law_script"] (spFresh K) := by
  refine F.ok sc_fresh (fun vs H Q E h => ?_) (fun cdv A outer s H vs Q E hr h => ?_)
  · obtain ⟨a, ns, rfl, _⟩ := h
    rfl
  · obtain ⟨a, ns, rfl, hS, hl, k⟩ := h
    refine ⟨_, (pss_one (ps_ret (pe_lst (pa_cons (pe_slice sl_list (pv 0) po_none (po_some pe_int)) (pa_cons pe_int (pa_cons pe_int (pa_cons pe_bl pa_nil))))))), ?_⟩
    have hc : cutV (ns.map V.int) none (some 63) = (ns.map V.int) := by
      have e : (ns.map V.int).length = ns.length := List.length_map ..
      unfold cutV
      rw [HT.sIx_none, show (some (63 : Int)) = some ((63 : Nat) : Int) from rfl, HT.sIx_nat, List.drop_zero, e, Nat.min_eq_right hl, Nat.sub_zero, ← e, List.take_length]
    refine ⟨_, rfl, ⟨63, rfl, a, _, rfl, hS, fun c nc => ⟨by show 4 ≤ sizeLine; decide, fun p np => ?_⟩⟩⟩
    have hpc : p ≠ c := (ne_of_none upd_same np).symm
    have np' : H p = none := by rw [← upd_ne (H := H) (o := .lst (cutV (ns.map V.int) none (some 63))) hpc]; exact np
    refine k p c _ np' nc ((Same.upd' nc).trans (Same.upd' np)) ⟨⟨0, 0, false, upd_same⟩, ⟨ns, ?_, hl⟩, hpc.symm⟩
    rw [upd_ne hpc.symm, upd_same, hc]
end
end Lm

namespace Lm
open PySem L2
theorem mem_at {xs : List V} {i : Nat} {x : V} (h : xs[i]? = some x) : x ∈ xs := List.mem_of_getElem? h
theorem fmod_bd (a : Int) {p : Int} (h : 0 < p) : 0 ≤ Int.fmod a p ∧ Int.fmod a p < p := ⟨Int.fmod_nonneg_of_pos a h, Int.fmod_lt_of_pos a h⟩
/-- exactly evaluated: a value, the heap as it was -/
def Vx (te : TE) (σ : St) (H : Hp) (v : V) : Prop := ∀ Q : VK, Q v H → te σ H Q
theorem vx_or {ta tb : TE} {σ : St} {H : Hp} {a b : Bool} (h1 : Vx ta σ H (.bl a)) (h2 : Vx tb σ H (.bl b)) : Vx (tOrV ta tb) σ H (.bl (a || b)) := by
  intro Q q
  refine h1 _ ⟨a, rfl, ?_⟩
  cases a
  · exact iteF (h2 _ q)
  · exact iteT q
theorem vx_and {ta tb : TE} {σ : St} {H : Hp} {a b : Bool} (h1 : Vx ta σ H (.bl a)) (h2 : Vx tb σ H (.bl b)) : Vx (tAndV ta tb) σ H (.bl (a && b)) := by
  intro Q q
  refine h1 _ ⟨a, rfl, ?_⟩
  cases a
  · exact iteF q
  · exact iteT (h2 _ q)
theorem sq_asgB {te : TE} {g : TG} {tz : TS} {D : Ends} {σ : St} {H : Hp} (h : ∀ Q : VK, (∀ b : Bool, Q (.bl b) H) → te σ H Q) (k : ∀ b : Bool, g (.bl b) σ H (tz D)) : tSeq (tAsg te g) tz D σ H := h _ k
section
variable {P : Program} {w : World} {K : PySem.W.Frag} {mg : Str → Option Value} {base : Heap} {f : Addr} {fd : FuncData}
def spFill : Sp := fun vs H Q _ => ∃ (st c : Addr), vs = [.ref st] ∧ StAt H st c ∧ ∀ H', StAt H' st c → Kp st H H' → Q .non H'
abbrev s_fill : Stmt := top 21
theorem sc_fill : FnScope ["_law_state", "_law_cells", "_law_nth", "_law_seed", "_law_k", "_law_prime", "_law_far"] ["_law_state"] (defScope s_fill) := ⟨rfl, rfl, rfl, by decide +kernel, rfl, by decide +kernel, by decide +kernel⟩
theorem ok_fill (F : Fun K "_law_fill" "_law_fill" s_fill f fd) (T : Blt mg) : FnOk P w K mg base CX0 1 f fd ["_law_state"] spFill := by
  refine F.ok sc_fill (fun vs H Q E h => ?_) (fun cdv A outer s H vs Q E hr h => ?_)
  · obtain ⟨st, c, rfl, _⟩ := h
    rfl
  · obtain ⟨st, c, rfl, S, k⟩ := h
    obtain ⟨⟨n, l, b, h1⟩, ⟨ns, h2, hl⟩, ne⟩ := id S
    refine ⟨_, (pss_cons (ps_par (i := 1) (j := 2) (by rfl) sc_fill.nd rfl rfl (by decide) rfl rfl (pa_cons (pe_ix ix_list (pv 0) pe_int (fun _ _ => rfl)) (pa_cons (pe_ix ix_list (pv 0) pe_int (fun _ _ => rfl)) pa_nil)) (by rfl))
        (pss_cons (ps_set (i := 3) sc_fill.nd rfl (by first | exact Or.inl rfl | exact Or.inr rfl) (pe_op op_add (pe_op op_mul pe_int (pv 2)) pe_int))
        (Evl.pss_cut (ps_if (pt_cmpR op_gt (pe_callB call_len_seq (by rfl) T.b_len PySem.boot_len (pa_cons (pv 1) pa_nil)) pe_int (nomark _)) (pss_one (ps_set (i := 3) sc_fill.nd rfl (by first | exact Or.inl rfl | exact Or.inr rfl) (pe_op op_add (pe_op op_mul pe_int (pe_op op_fdivN (pv 2) (pe_callB call_len_seq (by rfl) T.b_len PySem.boot_len (pa_cons (pv 1) pa_nil)))) (pe_ix ix_list (pv 1) (pe_op op_modN (pe_callTy call_int1 (by rfl) T.b_int (by decide +kernel) (pa_cons (pv 2) pa_nil)) (pe_callB call_len_seq (by rfl) T.b_len PySem.boot_len (pa_cons (pv 1) pa_nil))) (fun _ _ => rfl))))) pss_nil)
        (pss_cons (ps_asg (pe_op op_add (pv 2) pe_int) (pg_sub (pv 0) pe_int set_list))
        (pss_cons (ps_asg (pe_or (pe_cmpR op_ge (pv 2) (pe_callB call_len_seq (by rfl) T.b_len PySem.boot_len (pa_cons (pv 1) pa_nil)) (nomark _)) (pe_one (pe_cmpR op_lt (pv 3) (pe_op op_pow pe_int pe_int) (nomark _)))) (pg_sub (pv 0) pe_int set_list))
        (pss_cons (ps_asg (pe_op op_sub (pv 3) (pe_op op_pow pe_int pe_int)) (pg_sub (pv 0) pe_int set_list))
        (pss_one (ps_if (pt_val (pe_ix ix_list (pv 0) pe_int (fun _ _ => rfl))) (pss_cons (ps_asg pe_int (pg_sub (pv 0) pe_int set_list))
        (pss_one (ps_for PassesOwn.never rfl (pi_enumA rfl T.b_enumerate (pa_cons (pe_tup (pa_cons pe_int (pa_cons pe_int (pa_cons pe_int (pa_cons pe_int (pa_cons pe_int pa_nil)))))) pa_nil)) (pg_tup rfl (pgs_cons (pg_name (i := 4) sc_fill.nd rfl (by first | exact Or.inl rfl | exact Or.inr rfl)) (pgs_cons (pg_name (i := 5) sc_fill.nd rfl (by first | exact Or.inl rfl | exact Or.inr rfl)) pgs_nil))) (pss_cons (ps_set (i := 6) sc_fill.nd rfl (by first | exact Or.inl rfl | exact Or.inr rfl) (pe_op op_modN (pe_callTy call_int1 (by rfl) T.b_int (by decide +kernel) (pa_cons (pe_op op_mul (pe_op op_add (pe_op op_add (pv 3) (pe_op op_mul (pe_op op_mul pe_int (pv 4)) (pv 4))) (pe_op op_mul pe_int (pv 4))) (pe_op op_add pe_int (pe_op op_mul pe_int (pv 4)))) pa_nil)) (pv 5)))
        (pss_one (ps_asg (pe_op op_add (pe_op op_mul (pe_ix ix_list (pv 0) pe_int (fun _ _ => rfl)) (pv 5)) (pe_op op_modN (pe_callTy call_int1 (by rfl) T.b_int (by decide +kernel) (pa_cons (pe_op op_pow (pv 6) pe_int) pa_nil)) (pv 5))) (pg_sub (pv 0) pe_int set_list))))))) pss_nil)))))))), ?_⟩
    refine ⟨_, rfl, _, _, _, _, rfl, rfl, SqL.of h1, rfl, _, rfl, _, _, _, _, rfl, rfl, SqL.of h1, rfl, _, _, rfl, ?_⟩
    refine ⟨_, rfl, _, _, rfl, rfl, .inl ⟨by decide, by decide⟩, _, _, rfl, rfl, ?_⟩
    refine ⟨fun σ' H' => H = H' ∧ ∃ seed : Int, σ' = [some (.ref st), some (.ref c), some (.int n), some (.int seed), none, none, none], ?_, ?_⟩
    · refine ⟨_, rfl, _, _, rfl, .inl (SqL.of h2), _, _, rfl, rfl, _, rfl, ite2 (fun hp => ?_) (fun _ => ⟨rfl, _, rfl⟩)⟩
      have e : (ns.map V.int).length = ns.length := List.length_map ..
      have hp : 0 < ns.length := by
        have hp := of_decide_eq_true hp
        rw [e] at hp; omega
      refine ⟨_, rfl, _, rfl, _, _, rfl, .inl (SqL.of h2), _, _, rfl, rfl, ⟨by rw [e]; omega, by rw [e]; omega⟩, _, _, rfl, rfl, .inl ⟨by decide, by decide⟩, ?_⟩
      obtain ⟨m1, m2⟩ := fmod_bd n (p := ((ns.map V.int).length : Int)) (by rw [e]; omega)
      have hj : (Int.fmod n ((ns.map V.int).length : Int)).toNat < ns.length := by rw [e] at m1 m2 ⊢; omega
      refine ⟨_, rfl, _, rfl, .inl ⟨_, rfl, _, rfl, _, _, rfl, .inl (SqL.of h2), _, _, rfl, rfl, by rw [e]; omega, _, _, _, _, rfl, rfl, SqL.of h2, at_of (j := (Int.fmod n ((ns.map V.int).length : Int)).toNat) (Int.toNat_of_nonneg m1).symm (by rw [List.getElem?_map, List.getElem?_eq_getElem hj]; rfl), _, _, rfl, rfl, ⟨rfl, _, rfl⟩⟩⟩
    · rintro σ' H' ⟨rfl, seed, rfl⟩
      refine ⟨_, rfl, _, _, rfl, rfl, _, rfl, _, _, _, _, rfl, rfl, h1, rfl, ?_⟩
      generalize hH1 : upd H st _ = H1
      have g1 : H1 st = some (.lst [.ref c, .int (n + 1), .int l, .bl b]) := by rw [← hH1]; exact upd_same
      have g2 : H1 c = some (.lst (ns.map V.int)) := by rw [← hH1, upd_ne ne]; exact h2
      have kp1 : Kp st H H1 := by rw [← hH1]; exact Kp.upd _ _ _
      clear hH1
      -- far or not
      dsimp only
      refine sq_asgB (fun Q q => ?_) fun b' => ?_
      · refine ⟨_, rfl, _, rfl, _, _, rfl, .inl (SqL.of g2), _, _, rfl, rfl, _, rfl, ite2 (fun _ => q true) (fun _ => ?_)⟩
        exact ⟨_, rfl, _, _, rfl, rfl, ⟨by decide, by decide, by decide⟩, _, _, rfl, rfl, q _⟩
      refine ⟨_, rfl, _, _, _, _, rfl, rfl, g1, rfl, ?_⟩
      generalize hH2 : upd H1 st _ = H2
      have g3 : H2 st = some (.lst [.ref c, .int (n + 1), .int l, .bl b']) := by rw [← hH2]; exact upd_same
      have g4 : H2 c = some (.lst (ns.map V.int)) := by rw [← hH2, upd_ne ne]; exact g2
      have kp2 : Kp st H H2 := by rw [← hH2]; exact kp1.trans (Kp.upd _ _ _)
      clear hH2
      refine ⟨_, rfl, _, _, rfl, rfl, ⟨by decide, by decide, by decide⟩, _, _, rfl, rfl, _, rfl, _, _, _, _, rfl, rfl, g3, rfl, ?_⟩
      generalize hH3 : upd H2 st _ = H3
      obtain ⟨l3, g5⟩ : ∃ l3, H3 st = some (.lst [.ref c, .int (n + 1), .int l3, .bl b']) := ⟨_, by rw [← hH3]; exact upd_same⟩
      have g6 : H3 c = some (.lst (ns.map V.int)) := by rw [← hH3, upd_ne ne]; exact g4
      have kp3 : Kp st H H3 := by rw [← hH3]; exact kp2.trans (Kp.upd _ _ _)
      clear hH3
      refine ⟨_, rfl, _, _, _, _, rfl, rfl, SqL.of g5, rfl, _, rfl, ite2 (fun _ => ?_) (fun _ => k _ ⟨⟨_, _, _, g5⟩, ⟨ns, g6, hl⟩, ne⟩ kp3)⟩
      refine ⟨_, rfl, _, _, _, _, rfl, rfl, g5, rfl, ?_⟩
      generalize hH4 : upd H3 st _ = H4
      have g7 : H4 st = some (.lst [.ref c, .int (n + 1), .int 0, .bl b']) := by rw [← hH4]; exact upd_same
      have g8 : H4 c = some (.lst (ns.map V.int)) := by rw [← hH4, upd_ne ne]; exact g6
      have kp4 : Kp st H H4 := by rw [← hH4]; exact kp3.trans (Kp.upd _ _ _)
      clear hH4
      refine ⟨by show 5 ≤ sizeLine; decide, fun t nt => ?_⟩
      have hts : t ≠ st := (ne_of_none g7 nt).symm
      have htc : t ≠ c := (ne_of_none g8 nt).symm
      refine ⟨t, _, rfl, .inr ⟨SqT.of upd_same, for_it (walk_enumT (K := K) (xs := [V.int 2147483647, V.int 2147483629, V.int 2147483587, V.int 2147483579, V.int 2147483563])) (fun i σ' H' => ∃ (u v x : Option V) (l' : Int), σ' = [some (.ref st), some (.ref c), some (.int n), some (.int seed), u, v, x] ∧ Kp st (upd H4 t (.tup [V.int 2147483647, V.int 2147483629, V.int 2147483587, V.int 2147483579, V.int 2147483563])) H' ∧ H' st = some (.lst [.ref c, .int (n + 1), .int l', .bl b'])) ?_ ?_ ?_ ?_⟩⟩
      · exact ⟨_, _, _, _, rfl, Kp.refl _ _, by rw [upd_ne hts.symm]; exact g7⟩
      · rintro i σ' H' _ ⟨u, v, x, l', rfl, e, _⟩
        exact SqT.of (e _ _ hts upd_same)
      · rintro i y σ' H' H'' hi ⟨u, v, x, l', rfl, e, e2⟩ ⟨T, x1, x2, rfl, nT, rfl, hx1, hx2⟩
        obtain ⟨pr, rfl, pr0, pr1⟩ : ∃ pr : Int, x2 = .int pr ∧ 0 < pr ∧ pr < 2147483648 := by
          have hm := mem_at hx2
          simp only [List.mem_cons, List.not_mem_nil, or_false] at hm
          rcases hm with rfl | rfl | rfl | rfl | rfl <;> exact ⟨_, rfl, by decide, by decide⟩
        cases (Option.some.inj hx1)
        have hi : i < 5 := hi
        have hTs : T ≠ st := (ne_of_none e2 nT).symm
        refine ⟨T, _, rfl, SqT.of upd_same, rfl, _, _, rfl, _, _, rfl, rfl, ?_⟩
        refine ⟨_, rfl, _, rfl, _, _, rfl, rfl, .inl ⟨by decide, by decide⟩, _, rfl, _, _, rfl, rfl, .inr ⟨by omega, by omega⟩, _, _, rfl, rfl, ?_⟩
        refine ⟨_, rfl, _, _, rfl, rfl, .inl ⟨by decide, by decide⟩, _, _, rfl, rfl, _, rfl, _, _, rfl, rfl, .inl ⟨by decide, by decide⟩, _, _, rfl, rfl, _, _, rfl, rfl, .inr ⟨by omega, by omega⟩, ?_⟩
        refine .inl ⟨_, rfl, _, rfl, _, _, rfl, rfl, by omega, ?_⟩
        generalize hfar : Int.fmod _ pr = far
        have hfar2 := fmod_bd (((seed + 10007 * (i : Int) * (i : Int) + 101 * (i : Int)) * (48271 + 2 * (i : Int)))) pr0
        rw [hfar] at hfar2
        refine ⟨_, rfl, _, _, _, _, rfl, rfl, SqL.of (by rw [upd_ne hTs.symm]; exact e2), rfl, _, rfl, _, _, rfl, rfl, .inr ⟨by omega, by omega⟩, ?_⟩
        refine ⟨_, rfl, _, _, rfl, rfl, ⟨by decide, by decide, by omega⟩, .inl ⟨_, rfl, _, rfl, _, _, rfl, rfl, by omega, _, _, rfl, rfl, _, rfl, _, _, _, _, rfl, rfl, by rw [upd_ne hTs.symm]; exact e2, rfl, ?_⟩⟩
        refine ⟨_, _, _, _, rfl, (e.trans (Kp.of (Same.upd' nT))).trans (Kp.upd _ _ _), upd_same⟩
      · rintro σ' H' ⟨u, v, x, l', rfl, e, e2⟩
        exact k _ ⟨⟨_, _, _, e2⟩, ⟨ns, e _ _ ne (by rw [upd_ne htc.symm]; exact g8), hl⟩, ne⟩ ((kp4.trans (Kp.of (Same.upd' nt))).trans e)
end
end Lm

namespace Lm
open PySem L2
/-! ### what is wanted may be weakened -/
def MonE (te : TE) : Prop := ∀ σ H (Q Q' : VK), (∀ v H1, Q v H1 → Q' v H1) → te σ H Q → te σ H Q'
def MonT (tt : TT) : Prop := ∀ σ H (Q Q' : Bool → Hp → Prop), (∀ b H1, Q b H1 → Q' b H1) → tt σ H Q → tt σ H Q'
def MonR (r : R2) : Prop := ∀ x y H (Q Q' : VK), (∀ v H1, Q v H1 → Q' v H1) → r x y H Q → r x y H Q'
theorem monE_var {i : Nat} : MonE (tVar i) := fun σ H Q Q' h ⟨v, e, q⟩ => ⟨v, e, h _ _ q⟩
theorem monE_c {v : V} : MonE (tC v) := fun σ H Q Q' h q => h _ _ q
theorem monE_op {r : R2} {ta tb : TE} (hr : MonR r) (ha : MonE ta) (hb : MonE tb) : MonE (tOp r ta tb) := fun σ H Q Q' h q => ha _ _ _ _ (fun x H1 q => hb _ _ _ _ (fun y H2 q => hr _ _ _ _ _ h q) q) q
theorem mon_I0 {g : Int → Int → V} : MonR (rI0 g) := fun x y H Q Q' h ⟨i, j, e1, e2, q⟩ => ⟨i, j, e1, e2, h _ _ q⟩
theorem mon_I {C : Int → Int → Prop} {g : Int → Int → V} : MonR (rI C g) := fun x y H Q Q' h ⟨i, j, e1, e2, c, q⟩ => ⟨i, j, e1, e2, c, h _ _ q⟩
theorem mon_ixL {K : PySem.W.Frag} : MonR (rIxL K) := fun x y H Q Q' h ⟨p, xs, i, v, e1, e2, e3, e4, q⟩ => ⟨p, xs, i, v, e1, e2, e3, e4, h _ _ q⟩
theorem mon_eq : MonR rEq := fun x y H Q Q' h ⟨e, q⟩ => ⟨e, h _ _ q⟩
theorem monT_test {te : TE} (he : MonE te) : MonT (tTest te) := fun σ H Q Q' h q => he _ _ _ _ (fun x H1 ⟨k, e, q⟩ => ⟨k, e, h _ _ q⟩) q
theorem monT_B {te : TE} (he : MonE te) : MonT (tB te) := fun σ H Q Q' h q => he _ _ _ _ (fun x H1 ⟨k, e, q⟩ => ⟨k, e, h _ _ q⟩) q
theorem monT_and {t u : TT} (ht : MonT t) (hu : MonT u) : MonT (tAnd t u) := fun σ H Q Q' h q => ht _ _ _ _ (fun b H1 q => by cases b with | true => exact hu _ _ _ _ h q | false => exact h _ _ q) q
theorem monT_or {t u : TT} (ht : MonT t) (hu : MonT u) : MonT (tOr t u) := fun σ H Q Q' h q => ht _ _ _ _ (fun b H1 q => by cases b with | true => exact h _ _ q | false => exact hu _ _ _ _ h q) q
section
variable {P : Program} {w : World} {K : PySem.W.Frag} {mg : Str → Option Value} {base : Heap} {f : Addr} {fd : FuncData}
def spTake : Sp := fun vs H Q _ => ∃ (st c : Addr) (m : Int), vs = [.ref st, .int m] ∧ StAt H st c ∧ 0 < m ∧ m < 1073741824 ∧ ∀ d H', 0 ≤ d → d < m → StAt H' st c → Kp st H H' → Q (.int d) H'
abbrev s_take : Stmt := top 22
theorem sc_take : FnScope ["_law_state", "_law_many", "_law_laps", "_law_digit"] ["_law_state", "_law_many"] (defScope s_take) := ⟨rfl, rfl, rfl, by decide +kernel, rfl, by decide +kernel, by decide +kernel⟩
theorem ok_take {fF : Addr} {fdF : FuncData} (F : Fun K "_law_take" "_law_take" s_take f fd) (T : Blt mg) (D_fill : DefOk P w K mg base 1 "_law_fill" fF fdF ["_law_state"] spFill) : FnOk P w K mg base CX0 2 f fd ["_law_state", "_law_many"] spTake := by
  refine F.ok sc_take (fun vs H Q E h => ?_) (fun cdv A outer s H vs Q E hr h => ?_)
  · obtain ⟨st, c, m, rfl, _⟩ := h
    rfl
  · obtain ⟨st, c, m, rfl, S, m0, m1, k⟩ := h
    refine ⟨_, (pss_cons (ps_set (i := 2) sc_take.nd rfl (by first | exact Or.inl rfl | exact Or.inr rfl) pe_int)
        (pss_cons (ps_while PassesOwn.never (PW.pt (pw_and (pt_cmpR op_lt (pv 2) pe_int (nomark _)) (pw_and1 (PW.pt (pw_or (pt_cmpR op_eq (pe_ix ix_list (pv 0) pe_int (fun _ _ => rfl)) pe_int (nomark _)) (pw_or1 (PW.pt (pw_and (pt_val (pe_ix ix_list (pv 0) pe_int (fun _ _ => rfl))) (pw_and1 (pt_cmpR op_lt (pe_ix ix_list (pv 0) pe_int (fun _ _ => rfl)) (pe_op op_mul (pv 1) pe_int) (nomark _))))))))))) (pss_cons (ps_expr (pe_d D_fill (hr.mono (by decide)) (pa_cons (pv 0) pa_nil)))
        (pss_cons (ps_aug (i := 2) sc_take.nd rfl (by first | exact Or.inl rfl | exact Or.inr rfl) pe_int ip_add)
        (pss_one (ps_if (PW.pt (pw_and (pt_val (pe_ix ix_list (pv 0) pe_int (fun _ _ => rfl))) (pw_and1 (pt_cmpR op_lt (pe_ix ix_list (pv 0) pe_int (fun _ _ => rfl)) (pe_op op_mul (pv 1) pe_int) (nomark _))))) (pss_one (ps_asg (pe_op op_add (pe_ix ix_list (pv 0) pe_int (fun _ _ => rfl)) (pe_op op_mul (pe_op op_mul (pv 1) pe_int) (pe_op op_add pe_int (pe_op op_modN (pe_callTy call_int1 (by rfl) T.b_int (by decide +kernel) (pa_cons (pe_ix ix_list (pv 0) pe_int (fun _ _ => rfl)) pa_nil)) pe_int)))) (pg_sub (pv 0) pe_int set_list))) pss_nil)))))
        (pss_cons (ps_set (i := 3) sc_take.nd rfl (by first | exact Or.inl rfl | exact Or.inr rfl) (pe_op op_modN (pe_callTy call_int1 (by rfl) T.b_int (by decide +kernel) (pa_cons (pe_ix ix_list (pv 0) pe_int (fun _ _ => rfl)) pa_nil)) (pv 1)))
        (pss_cons (ps_asg (pe_op op_fdivN (pe_ix ix_list (pv 0) pe_int (fun _ _ => rfl)) (pv 1)) (pg_sub (pv 0) pe_int set_list))
        (pss_one (ps_ret (pv 3))))))), ?_⟩
    refine while_by (fun σ' H' => ∃ (i : Nat), σ' = [some (.ref st), some (.int m), some (.int (i : Int)), none] ∧ i ≤ 64 ∧ StAt H' st c ∧ Kp st H H') (fun σ' _ => match σ' with | [_, _, some (.int i), _] => (64 - i).toNat | _ => 0) ⟨0, rfl, by decide, S, Kp.refl _ _⟩ ?_ ?_
    · rintro σ' H' ⟨i, rfl, hi, S', e⟩
      obtain ⟨⟨n, l, b, h1⟩, ⟨ns, h2, hl⟩, ne⟩ := id S'
      -- behind the loop
      have after : tSeq (tAsg (tOp (rI (fun x j => j ≠ 0) fun i j => V.int (i.fmod j)) (tCB (fun xs H Q => (∃ i, xs = [V.int i] ∧ Q (V.int i) H) ∨ ∃ k, xs = [V.bl k] ∧ Q (V.int (if k = true then 1 else 0)) H) (tCons (tOp (rIxL K) (tVar 0) (tC (.int 2))) tNil)) (tVar 1)) (gName 3))
          (tSeq (tAsg (tOp (rI CDivN fun i j => .int (i.fdiv j)) (tOp (rIxL K) (tVar 0) (tC (.int 2))) (tVar 1)) (gSub (tVar 0) (tC (.int 2)) rSetL)) (tRet (tVar 3))) { nx := fun _ H' => Q .non H', rt := Q } [some (.ref st), some (.int m), some (.int (i : Int)), none] H' := by
        refine ⟨_, rfl, _, _, _, _, rfl, rfl, SqL.of h1, rfl, .inl ⟨_, rfl, _, rfl, _, _, rfl, rfl, by omega, ?_⟩⟩
        have hd := fmod_bd l m0
        refine ⟨_, rfl, _, _, _, _, rfl, rfl, SqL.of h1, rfl, _, rfl, _, _, rfl, rfl, ⟨by omega, by omega⟩, _, rfl, _, _, _, _, rfl, rfl, h1, rfl, _, rfl, ?_⟩
        exact k _ _ hd.1 hd.2 ⟨⟨_, _, _, upd_same⟩, ⟨ns, by rw [upd_ne ne]; exact h2, hl⟩, ne⟩ (e.trans (Kp.upd _ _ _))
      refine ⟨_, rfl, _, _, rfl, rfl, _, rfl, ite2 (fun hc => ?_) (fun _ => iteF after)⟩
      have hc : i < 64 := by have := of_decide_eq_true hc; omega
      refine ⟨_, rfl, _, _, _, _, rfl, rfl, SqL.of h1, rfl, rfl, _, rfl, ite2 (fun _ => ?b1) (fun _ => ⟨_, rfl, _, _, _, _, rfl, rfl, SqL.of h1, rfl, _, rfl, ite2 (fun _ => ⟨_, rfl, _, _, _, _, rfl, rfl, SqL.of h1, rfl, _, rfl, _, _, rfl, rfl, .inr ⟨by decide, by decide⟩, _, _, rfl, rfl, _, rfl, ite2 (fun _ => ?b2) (fun _ => ?c1)⟩) (fun _ => ?c2)⟩)⟩
      case c1 => exact after
      case c2 => exact after
      all_goals
        refine ⟨_, rfl, st, c, rfl, S', fun H2 S2 e2 => ?_⟩
        obtain ⟨⟨n2, l2, b2, g1⟩, ⟨ns2, g2, gl⟩, _⟩ := id S2
        have fin : ∀ H3, StAt H3 st c → Kp st H2 H3 → (∃ j : Nat, [some (V.ref st), some (.int m), some (.int ((i : Int) + 1)), none] = [some (.ref st), some (.int m), some (.int (j : Int)), none] ∧ j ≤ 64 ∧ StAt H3 st c ∧ Kp st H H3) ∧ (64 - ((i : Int) + 1)).toNat < (64 - (i : Int)).toNat :=
          fun H3 S3 e3 => ⟨⟨i + 1, by simp, by omega, S3, (e.trans e2).trans e3⟩, by omega⟩
        refine ⟨_, rfl, _, _, rfl, rfl, ?_⟩
        refine ⟨_, rfl, _, _, _, _, rfl, rfl, SqL.of g1, rfl, _, rfl, ite2 (fun _ => ⟨_, rfl, _, _, _, _, rfl, rfl, SqL.of g1, rfl, _, rfl, _, _, rfl, rfl, .inr ⟨by decide, by decide⟩, _, _, rfl, rfl, _, rfl, ite2 (fun _ => ?_) (fun _ => fin _ S2 (Kp.refl _ _))⟩) (fun _ => fin _ S2 (Kp.refl _ _))⟩
        have hr2 := fmod_bd l2 (p := 4093) (by decide)
        refine ⟨_, rfl, _, _, _, _, rfl, rfl, SqL.of g1, rfl, _, rfl, _, _, rfl, rfl, .inr ⟨by decide, by decide⟩, _, rfl, _, _, _, _, rfl, rfl, SqL.of g1, rfl, .inl ⟨_, rfl, _, _, rfl, rfl, (by show (4093 : Int) ≠ 0; decide), _, _, rfl, rfl, _, _, rfl, rfl, .inr ⟨by omega, by omega⟩, _, _, rfl, rfl, _, rfl, _, _, _, _, rfl, rfl, g1, rfl, ?_⟩⟩
        exact fin _ ⟨⟨_, _, _, upd_same⟩, ⟨ns2, by rw [upd_ne ne]; exact g2, gl⟩, ne⟩ (Kp.upd _ _ _)
    · exact monT_and (monT_test (monE_op mon_I0 (monE_var) (monE_c))) (monT_or (monT_test (monE_op mon_eq (monE_op mon_ixL monE_var monE_c) monE_c)) (monT_and (monT_B (monE_op mon_ixL monE_var monE_c)) (monT_test (monE_op mon_I0 (monE_op mon_ixL monE_var monE_c) (monE_op mon_I monE_var monE_c)))))
end
end Lm

namespace Lm
open PySem L2
section
variable {P : Program} {w : World} {K : PySem.W.Frag} {mg : Str → Option Value} {base : Heap} {f : Addr} {fd : FuncData}
def spOneA (K : PySem.W.Frag) : Sp := fun vs H Q _ => ∃ (st c t : Addr) (xs : List V), vs = [.ref st, .ref t] ∧ StAt H st c ∧ t ≠ st ∧ (SqL K H t xs ∨ SqT K H t xs) ∧ 0 < xs.length ∧ xs.length < 1073741824 ∧ ∀ v H', v ∈ xs → StAt H' st c → Kp st H H' → Q v H'
def spOne (K : PySem.W.Frag) : Sp := fun vs H Q _ => ∃ (st c t : Addr) (xs : List V), vs = [.ref st, .ref t] ∧ StAt H st c ∧ t ≠ st ∧ SqT K H t xs ∧ 0 < xs.length ∧ xs.length < 1073741824 ∧ ∀ v H', v ∈ xs → StAt H' st c → Kp st H H' → Q v H'
abbrev s_one : Stmt := top 23
theorem sc_one : FnScope ["_law_state", "_law_things"] ["_law_state", "_law_things"] (defScope s_one) := ⟨rfl, rfl, rfl, by decide +kernel, rfl, by decide +kernel, by decide +kernel⟩
theorem ok_oneA {fT : Addr} {fdT : FuncData} (F : Fun K "_law_one" "_law_one" s_one f fd) (T : Blt mg) (D_take : DefOk P w K mg base 2 "_law_take" fT fdT ["_law_state", "_law_many"] spTake) : FnOk P w K mg base CX0 3 f fd ["_law_state", "_law_things"] (spOneA K) := by
  refine F.ok sc_one (fun vs H Q E h => ?_) (fun cdv A outer s H vs Q E hr h => ?_)
  · obtain ⟨st, c, t, xs, rfl, _⟩ := h
    rfl
  · obtain ⟨st, c, t, xs, rfl, S, hts, hq, l0, l1, k⟩ := h
    refine ⟨_, (pss_one (ps_ret (pe_ix ix_seq (pv 1) (pe_d D_take (hr.mono (by decide)) (pa_cons (pv 0) (pa_cons (pe_callB call_len_seq (by rfl) T.b_len PySem.boot_len (pa_cons (pv 1) pa_nil)) pa_nil))) (fun _ _ => rfl)))), ?_⟩
    refine ⟨_, rfl, _, rfl, _, rfl, _, _, rfl, hq, st, c, _, rfl, S, by omega, by omega, fun d H' d0 d1 S' e => ?_⟩
    have hd : d.toNat < xs.length := by omega
    have at_ := at_of (Int.toNat_of_nonneg d0).symm (List.getElem?_eq_getElem hd)
    have fin := k _ _ (List.getElem_mem hd) S' e
    rcases hq with hq | hq
    · exact .inl ⟨t, xs, d, _, rfl, rfl, e.seqL hts hq, at_, fin⟩
    · exact .inr (.inl ⟨t, xs, d, _, rfl, rfl, e.seqT hts hq, at_, fin⟩)
theorem ok_one {fT : Addr} {fdT : FuncData} (F : Fun K "_law_one" "_law_one" s_one f fd) (T : Blt mg) (D_take : DefOk P w K mg base 2 "_law_take" fT fdT ["_law_state", "_law_many"] spTake) : FnOk P w K mg base CX0 3 f fd ["_law_state", "_law_things"] (spOne K) :=
  (ok_oneA F T D_take).imp fun vs H Q E ⟨st, c, t, xs, h1, h2, h3, h4, h5, h6, h7⟩ => ⟨st, c, t, xs, h1, h2, h3, .inr h4, h5, h6, h7⟩
/-! ### the words -/
def sg (c : Nat) : Str := ⟨#[c]⟩
def two (c d : Nat) : Str := ⟨#[c, d]⟩
def row2 (c : Nat) : List Str := [103, 104, 105, 106, 107, 108, 109, 110, 111, 112].map (two c)
def w0 : List Str := ["a", "b", "k", "zz", "abcdefgh"]
def allW : List Str := w0 ++ [97, 98, 99, 100, 101, 102].flatMap row2
theorem two_eq (c d : Nat) : sg c ++ sg d = two c d := rfl
theorem len1 (c : Nat) : (sg c).length = 1 := rfl
def spAllW : Sp := fun vs H Q _ => vs = [] ∧ ∀ p H', H p = none → Same H H' → H' p = some (.lst (allW.map V.str)) → Q (.ref p) H'
theorem sixL : ("abcdef" : Str).cps = #[97, 98, 99, 100, 101, 102] := by decide +kernel
theorem tenL : ("ghijklmnop" : Str).cps = #[103, 104, 105, 106, 107, 108, 109, 110, 111, 112] := by decide +kernel
end
end Lm

namespace Lm
open PySem L2 Evl RZ
structure EdIsi (K : PySem.W.Frag) (mg : Str → Option Value) (C : Addr) : Prop where
  g_Edition : mg "Edition" = some (.ref C)
  ha : PySem.W.findIn K (.ref C) "__class__" = some (some (.builtin "object.__class__"))
  hn : PySem.W.specialIn K (.builtin "object.__class__") "__get__" = some (some (.builtin "getset_descriptor.__get__"))
  htk : PySem.W.takesIn K (.builtin "object.__class__") = some true
  hm : PySem.W.mroIn K C (.type "object") = some true
  ko : PySem.W.kitOne K (.ref C) (.ref C) = some true
/-! ### two things that are the same, of depth below d -/
def SameV (H : Hp) : Nat → V → V → Prop
  | 0 => fun _ _ => False
  | d + 1 => fun x y => (∃ i, x = .int i ∧ y = .int i) ∨ (∃ b, x = .bl b ∧ y = .bl b) ∨ (∃ s, x = .str s ∧ y = .str s) ∨ (x = .non ∧ y = .non) ∨
    (∃ a b xs ys, x = .ref a ∧ y = .ref b ∧ H a = some (.lst xs) ∧ H b = some (.lst ys) ∧ xs.length = ys.length ∧ xs.length ≤ 40000 ∧ ∀ (i : Nat) u v, xs[i]? = some u → ys[i]? = some v → SameV H d u v) ∨
    (∃ a b xs ys, x = .ref a ∧ y = .ref b ∧ H a = some (.tup xs) ∧ H b = some (.tup ys) ∧ xs.length = ys.length ∧ xs.length ≤ 40000 ∧ ∀ (i : Nat) u v, xs[i]? = some u → ys[i]? = some v → SameV H d u v) ∨ (∃ a ks, x = .ref a ∧ y = .ref a ∧ H a = some (.dK ks) ∧ (ks.map (·.1)).Nodup)
theorem SameV.ex {H H' : Hp} (e : Ex H H') : ∀ {d : Nat} {x y : V}, SameV H d x y → SameV H' d x y
  | 0, _, _, h => h
  | d + 1, x, y, h => by
    rcases h with h | h | h | h | ⟨a, b, xs, ys, rfl, rfl, ha, hb, h1, h2, h3⟩ | ⟨a, b, xs, ys, rfl, rfl, ha, hb, h1, h2, h3⟩ | ⟨a, ks, rfl, rfl, ha, hd⟩
    · exact .inl h
    · exact .inr (.inl h)
    · exact .inr (.inr (.inl h))
    · exact .inr (.inr (.inr (.inl h)))
    · exact .inr (.inr (.inr (.inr (.inl ⟨a, b, xs, ys, rfl, rfl, e _ _ ha, e _ _ hb, h1, h2, fun i u v q1 q2 => SameV.ex e (h3 i u v q1 q2)⟩))))
    · exact .inr (.inr (.inr (.inr (.inr (.inl ⟨a, b, xs, ys, rfl, rfl, e _ _ ha, e _ _ hb, h1, h2, fun i u v q1 q2 => SameV.ex e (h3 i u v q1 q2)⟩)))))
    · exact .inr (.inr (.inr (.inr (.inr (.inr ⟨a, ks, rfl, rfl, e _ _ ha, hd⟩)))))
theorem SameV.int {H : Hp} {d : Nat} (i : Int) : SameV H (d + 1) (.int i) (.int i) := .inl ⟨i, rfl, rfl⟩
theorem SameV.bl {H : Hp} {d : Nat} (i : Bool) : SameV H (d + 1) (.bl i) (.bl i) := .inr (.inl ⟨i, rfl, rfl⟩)
theorem SameV.str {H : Hp} {d : Nat} (i : Str) : SameV H (d + 1) (.str i) (.str i) := .inr (.inr (.inl ⟨i, rfl, rfl⟩))
theorem SameV.non {H : Hp} {d : Nat} : SameV H (d + 1) .non .non := .inr (.inr (.inr (.inl ⟨rfl, rfl⟩)))
theorem SameV.lst {H : Hp} {d : Nat} {a b : Addr} {xs ys : List V} (ha : H a = some (.lst xs)) (hb : H b = some (.lst ys)) (h1 : xs.length = ys.length) (h2 : xs.length ≤ 40000) (h3 : ∀ (i : Nat) u v, xs[i]? = some u → ys[i]? = some v → SameV H d u v) : SameV H (d + 1) (.ref a) (.ref b) :=
  .inr (.inr (.inr (.inr (.inl ⟨a, b, xs, ys, rfl, rfl, ha, hb, h1, h2, h3⟩))))
theorem SameV.tup {H : Hp} {d : Nat} {a b : Addr} {xs ys : List V} (ha : H a = some (.tup xs)) (hb : H b = some (.tup ys)) (h1 : xs.length = ys.length) (h2 : xs.length ≤ 40000) (h3 : ∀ (i : Nat) u v, xs[i]? = some u → ys[i]? = some v → SameV H d u v) : SameV H (d + 1) (.ref a) (.ref b) :=
  .inr (.inr (.inr (.inr (.inr (.inl ⟨a, b, xs, ys, rfl, rfl, ha, hb, h1, h2, h3⟩)))))
theorem SameV.dct {H : Hp} {d : Nat} {a : Addr} {ks : List (Key × V)} (ha : H a = some (.dK ks)) (hd : (ks.map (·.1)).Nodup) : SameV H (d + 1) (.ref a) (.ref a) := .inr (.inr (.inr (.inr (.inr (.inr ⟨a, ks, rfl, rfl, ha, hd⟩)))))
theorem rv_eqD {H : Hp} {x y : V} (h : scal x y = true) : RV (fun x y H Q => rEq x y H Q ∨ rEqSelf x y H Q) x y H (.bl (decide (x = y))) := fun H1 _ _ q => .inl ⟨h, q H1 (Ex.refl H1)⟩
theorem rv_eqDd {H : Hp} {a : Addr} {ks : List (Key × V)} (h : H a = some (.dK ks)) (hd : (ks.map (·.1)).Nodup) : RV (fun x y H Q => rEq x y H Q ∨ rEqSelf x y H Q) (.ref a) (.ref a) H (.bl true) := fun H1 e _ q => .inr ⟨a, ks, rfl, rfl, e _ _ h, hd, q H1 (Ex.refl H1)⟩
/-- lists of flat things alike -/
theorem SameV.flat {H : Hp} {d : Nat} {a b : Addr} {xs : List V} (ha : H a = some (.lst xs)) (hb : H b = some (.lst xs)) (h2 : xs.length ≤ 40000) (h : ∀ x ∈ xs, SameV H (d + 1) x x) : SameV H (d + 2) (.ref a) (.ref b) :=
  .lst ha hb rfl h2 fun i u v q1 q2 => by
    rw [q1] at q2
    cases (Option.some.inj q2)
    exact h u (List.mem_of_getElem? q1)
theorem ok_none {P : Program} {w : World} {K : PySem.W.Frag} {mg : Str → Option Value} {base : Heap} {f : Addr} {fd : FuncData} {k : Nat} {ps : List Str} : FnOk P w K mg base CX0 k f fd ps (fun _ _ _ _ => False) :=
  ⟨fun _ _ _ _ h => h.elim, fun _ _ _ _ _ _ _ _ _ _ _ _ _ h => h.elim⟩
section
variable {K : PySem.W.Frag} {σ : L2.St} {H : Hp} {te : TE}
theorem ev_isi {x c : V} {t u : Value} {b : Bool} (h : Ev te σ H x) (hc : ClsV c u) (ht : ∀ H1, Ex H H1 → TyX K H1 x t) (hk : PySem.W.kitOne K t u = some b) : Ev (tCB (rIsi K) (tCons te (tCons (tC c) tNil))) σ H (.bl b) :=
  ev_cb (ea_cons h (ea_cons ev_c ea_nil)) fun H1 e Q q => ⟨x, c, t, u, b, rfl, hc, ht H1 e, hk, q H1 (Ex.refl _)⟩
theorem ev_isiT {x : V} {cs : List V} {t : Value} {us : List Value} {b : Bool} {ta : TA} (h : Ev te σ H x) (hcs : EvA ta σ H cs) (hl : cs.length ≤ 100000) (hc : Paired ClsV cs us) (ht : ∀ H1, Ex H H1 → TyX K H1 x t) (hk : PySem.W.kitAny K t us = some b) :
    Ev (tCB (rIsiT K) (tCons te (tCons (tTup ta) tNil))) σ H (.bl b) := fun H1 e Q q => h H1 e _ fun H2 e2 => hcs H2 (e.trans e2) _ fun H3 e3 => ⟨sz_of hl, fun p np =>
      ⟨x, p, cs, t, us, b, rfl, upd_same, hc, ht _ (((e.trans e2).trans e3).trans (Ex.new np)), hk, q _ ((e2.trans e3).trans (Ex.new np))⟩⟩
/-- over zip of two lists -/
theorem el_lcZ {a b : Addr} {xs ys : List V} {ta tb : TE} {i j : Nat} {vs : List Nat} (v : Nat → V) (ha : Ev ta σ H (.ref a)) (hb : Ev tb σ H (.ref b)) (hx : H a = some (.lst xs) ∧ H b = some (.lst ys) ∨ H a = some (.tup xs) ∧ H b = some (.tup ys)) (hl : xs.length = ys.length) (hz : xs.length ≤ 40000)
    (hw : ∀ x y, wipe (((wipe σ vs).set i (some x)).set j (some y)) vs = wipe σ vs) (he : ∀ (n : Nat) (x y : V) H1, Ex H H1 → xs[n]? = some x → ys[n]? = some y → Ev te (((wipe σ vs).set i (some x)).set j (some y)) H1 (v n)) :
    EvL (tLc (iZipA K (tCons ta (tCons tb tNil))) (gTup K 2 (gCons (gName i) (gCons (gName j) gNil))) tYes te vs) σ H ((List.range xs.length).map v) := fun H0 e Q q => ha H0 e _ fun H1 e1 => hb H1 (e.trans e1) _ fun H2 e2 => by
  have E := (e.trans e1).trans e2
  have hmin : xs.length = min xs.length ys.length := by omega
  have turn : ∀ (n : Nat) (z : V) (Hn Hn' : Hp) (D : Addr), n < xs.length → Cw H2 (fun _ => true) v D n Hn → YPair (fun i => xs[i]?) (fun i => ys[i]?) n Hn z Hn' →
      gTup K 2 (gCons (gName i) (gCons (gName j) gNil)) z (wipe σ vs) Hn' fun σ2 H2' => wipe σ2 vs = wipe σ vs ∧ tYes σ2 H2' fun b H3 => if b = true then te σ2 H3 fun y H4 => ∃ acc, H4 D = some (.lst acc) ∧ acc.length < sizeLine ∧ Cw H2 (fun _ => true) v D (n + 1) (upd H4 D (.lst (acc ++ [y]))) else Cw H2 (fun _ => true) v D (n + 1) H3 := by
    rintro n z Hn Hn' D hn p ⟨T', x, y, rfl, nT, rfl, hx1, hy1⟩
    refine ⟨T', _, rfl, SqT.of upd_same, rfl, _, _, rfl, _, _, rfl, rfl, hw x y, ?_⟩
    have p' : Cw H2 (fun _ => true) v D n (upd Hn T' (.tup [x, y])) := ⟨p.1, p.2.1.trans (Ex.new nT), by rw [upd_ne (ne_of_none p.2.2 nT)]; exact p.2.2⟩
    exact cw_turn (t := tYes) p' (by omega) (fun H1 _ _ q => q H1 (Ex.refl H1)) fun _ => he n x y H2 E hx1 hy1
  have fin : ∀ D H', Cw H2 (fun _ => true) v D xs.length H' → Q (.ref D) H' := fun D H' p => q D H' (fresh_back (e1.trans e2) p.1) ((e1.trans e2).trans p.2.1) (by
    rw [p.2.2]
    unfold given
    rw [List.filter_eq_self.mpr fun _ _ => rfl])
  refine ⟨a, b, xs, ys, rfl, ?_⟩
  rcases hx with ⟨h1, h2⟩ | ⟨h1, h2⟩
  · refine .inl ⟨sq_of (E _ _ h1), sq_of (E _ _ h2), fun D hD => lc_it (walk_zip hmin) (Cw H2 (fun _ => true) v D) ⟨hD, Ex.new hD, upd_same⟩ (fun n H' _ p => ⟨sq_of ((E.trans p.2.1) _ _ h1), sq_of ((E.trans p.2.1) _ _ h2)⟩) (fun n z Hn Hn' hn p y => turn n z Hn Hn' D hn p y) (fun H' p => fin D H' p)⟩
  · refine .inr ⟨st_of (E _ _ h1), st_of (E _ _ h2), fun D hD => lc_it (walk_zipT hmin) (Cw H2 (fun _ => true) v D) ⟨hD, Ex.new hD, upd_same⟩ (fun n H' _ p => ⟨st_of ((E.trans p.2.1) _ _ h1), st_of ((E.trans p.2.1) _ _ h2)⟩) (fun n z Hn Hn' hn p y => turn n z Hn Hn' D hn p y) (fun H' p => fin D H' p)⟩
theorem ev_lenL {p : Addr} {xs : List V} (ha : Ev te σ H (.ref p)) (h : H p = some (.lst xs)) : Ev (tCB (rLenS K) (tCons te tNil)) σ H (.int (xs.length : Int)) := ev_len ha (sq_of h)
theorem ev_lenT {p : Addr} {xs : List V} (ha : Ev te σ H (.ref p)) (h : H p = some (.tup xs)) : Ev (tCB (rLenS K) (tCons te tNil)) σ H (.int (xs.length : Int)) := ev_cb (ea_cons ha ea_nil) fun H1 e Q q => ⟨p, xs, rfl, .inr (st_of (e _ _ h)), q H1 (Ex.refl _)⟩
theorem ev_isB {x y : Bool} {ta tb : TE} (ha : Ev ta σ H (.bl x)) (hb : Ev tb σ H (.bl y)) : Ev (tOp rIsB ta tb) σ H (.bl (decide (x = y))) := ev_op ha hb fun H1 _ Q q => ⟨x, y, rfl, rfl, q H1 (Ex.refl _)⟩
theorem ev_all {bs : List Bool} (h : EvL te σ H (bs.map V.bl)) : Ev (tCB (rAll K) (tCons te tNil)) σ H (.bl (bs.all id)) := fun H1 e Q q =>
  h H1 e _ fun p H2 _ e2 hp => ⟨p, bs, rfl, sq_of hp, q H2 e2⟩
end
theorem kAny4 {K : PySem.W.Frag} {t : String} {c1 c2 c3 c4 : String} (h1 : kitB t c1 = some false) (h2 : kitB t c2 = some false) (h3 : kitB t c3 = some false) (h4 : kitB t c4 = some false) : PySem.W.kitAny K (.type t) [.type c1, .type c2, .type c3, .type c4] = some false :=
  kitAny_cons (kit_ty h1) (fun _ => kitAny_cons (kit_ty h2) (fun _ => kitAny_cons (kit_ty h3) (fun _ => kitAny_cons (kit_ty h4) (fun _ => rfl) (fun z => nomatch z)) (fun z => nomatch z)) (fun z => nomatch z)) (fun z => nomatch z)
theorem kAny2 {K : PySem.W.Frag} {t : String} {c1 c2 : String} (h1 : kitB t c1 = some false) (h2 : kitB t c2 = some false) : PySem.W.kitAny K (.type t) [.type c1, .type c2] = some false :=
  kitAny_cons (kit_ty h1) (fun _ => kitAny_cons (kit_ty h2) (fun _ => rfl) (fun z => nomatch z)) (fun z => nomatch z)
theorem kAnyL {K : PySem.W.Frag} : PySem.W.kitAny K (.type "list") [.type "list", .type "tuple"] = some true := kitAny_cons (b := true) (kit_ty (by decide +kernel)) (fun z => nomatch z) (fun _ => rfl)
theorem kAnyT {K : PySem.W.Frag} : PySem.W.kitAny K (.type "tuple") [.type "list", .type "tuple"] = some true := kitAny_cons (b := false) (kit_ty (by decide +kernel)) (fun _ => kitAny_cons (b := true) (kit_ty (by decide +kernel)) (fun z => nomatch z) (fun _ => rfl)) (fun z => nomatch z)
theorem pairT2 {c1 c2 : String} : Paired ClsV [V.ty c1, V.ty c2] [Value.type c1, Value.type c2] := .cons (.ty _) (.cons (.ty _) .nil)
theorem pairT4 {c1 c2 c3 c4 : String} : Paired ClsV [V.ty c1, V.ty c2, V.ty c3, V.ty c4] [Value.type c1, Value.type c2, Value.type c3, Value.type c4] := .cons (.ty _) (.cons (.ty _) (.cons (.ty _) (.cons (.ty _) .nil)))
section
variable {P : Program} {w : World} {K : PySem.W.Frag} {mg : Str → Option Value} {base : Heap} {f : Addr} {fd : FuncData}
def spSame (d : Nat) : Sp := fun vs H Q _ => ∃ x y, vs = [x, y] ∧ SameV H d x y ∧ ∀ H', Same H H' → Q (.bl true) H'
abbrev s_same : Stmt := top 24
theorem sc_same : FnScope ["_law_found", "_law_due", "_law_a", "_law_b"] ["_law_found", "_law_due"] (defScope s_same) := ⟨rfl, rfl, rfl, by decide +kernel, rfl, by decide +kernel, by decide +kernel⟩
theorem ok_same {d : Nat} (F : Fun K "_law_same" "_law_same" s_same f fd) (T : Blt mg) (D_same : DefOk P w K mg base d "_law_same" f fd ["_law_found", "_law_due"] (spSame d)) : FnOk P w K mg base CX0 (d + 1) f fd ["_law_found", "_law_due"] (spSame (d + 1)) := by
  refine F.ok sc_same (fun vs H Q E h => ?_) (fun cdv A outer s H vs Q E hr h => ?_)
  · obtain ⟨x, y, rfl, _⟩ := h
    rfl
  · obtain ⟨x, y, rfl, hxy, k⟩ := h
    have D_room : Room d _ := hr
    refine ⟨_, (pss_cons (ps_if (pt_val (pe_callB call_isiT (by rfl) T.b_isinstance (by decide +kernel) (pa_cons (pv 1) (pa_cons (pe_tup (pa_cons (pe_bltn (v := .ty "list") (u := .type "list") (by rfl) T.b_list (by decide +kernel) rfl) (pa_cons (pe_bltn (v := .ty "tuple") (u := .type "tuple") (by rfl) T.b_tuple (by decide +kernel) rfl) pa_nil))) pa_nil)))) (pss_cons (ps_if (PW.pt (pw_or (pt_cmpR op_ne (pe_callB call_isi (by rfl) T.b_isinstance (by decide +kernel) (pa_cons (pv 0) (pa_cons (pe_bltn (v := .ty "list") (u := .type "list") (by rfl) T.b_list (by decide +kernel) rfl) pa_nil))) (pe_callB call_isi (by rfl) T.b_isinstance (by decide +kernel) (pa_cons (pv 1) (pa_cons (pe_bltn (v := .ty "list") (u := .type "list") (by rfl) T.b_list (by decide +kernel) rfl) pa_nil))) (nomark _)) (pw_or1 (pt_cmpR op_ne (pe_callB call_isi (by rfl) T.b_isinstance (by decide +kernel) (pa_cons (pv 0) (pa_cons (pe_bltn (v := .ty "tuple") (u := .type "tuple") (by rfl) T.b_tuple (by decide +kernel) rfl) pa_nil))) (pe_callB call_isi (by rfl) T.b_isinstance (by decide +kernel) (pa_cons (pv 1) (pa_cons (pe_bltn (v := .ty "tuple") (u := .type "tuple") (by rfl) T.b_tuple (by decide +kernel) rfl) pa_nil))) (nomark _))))) (pss_one (ps_ret pe_bl)) pss_nil)
        (pss_one (ps_ret (pe_and (pe_cmpR op_eq (pe_callB call_len_seq (by rfl) T.b_len PySem.boot_len (pa_cons (pv 0) pa_nil)) (pe_callB call_len_seq (by rfl) T.b_len PySem.boot_len (pa_cons (pv 1) pa_nil)) (nomark _)) (pe_one (pe_callB (cr_all rfl) (by rfl) T.b_all (by decide +kernel) (by exact (pa_cons (pe_lc (own := [("_law_a", 2), ("_law_b", 3)]) (g := gTup K 2 (gCons (gName 2) (gCons (gName 3) gNil))) (tt := tYes) (te := (tCall (spSame d) [] E0 (tCons (tVar 2) (tCons (tVar 3) tNil)))) rfl sc_same.nd (pi_zipA rfl T.b_zip (pa_cons (pv 0) (pa_cons (pv 1) pa_nil))) (blkOk_by (own := [("_law_a", 2), ("_law_b", 3)]) (by kernel_rfl)) (fun _ _ _ _ _ => (pg_tup rfl (pgs_cons (pg_name (i := 2) sc_same.nd rfl (by first | exact Or.inl rfl | exact Or.inr rfl)) (pgs_cons (pg_name (i := 3) sc_same.nd rfl (by first | exact Or.inl rfl | exact Or.inr rfl)) pgs_nil)))) (fun _ _ _ _ _ => pts_nil) (fun _ _ _ _ _ => by exact (pe_d D_same D_room (pa_cons (pv 2) (pa_cons (pv 3) pa_nil))))) pa_nil)))))))) pss_nil)
        (pss_cons (ps_if (pt_val (pe_callB call_isi (by rfl) T.b_isinstance (by decide +kernel) (pa_cons (pv 1) (pa_cons (pe_bltn (v := .ty "int") (u := .type "int") (by rfl) T.b_int (by decide +kernel) rfl) pa_nil)))) (pss_one (ps_ret (pe_and (pe_callB call_isi (by rfl) T.b_isinstance (by decide +kernel) (pa_cons (pv 0) (pa_cons (pe_bltn (v := .ty "int") (u := .type "int") (by rfl) T.b_int (by decide +kernel) rfl) pa_nil))) (pe_and (pe_cmpR op_eq (pe_callB call_isi (by rfl) T.b_isinstance (by decide +kernel) (pa_cons (pv 0) (pa_cons (pe_bltn (v := .ty "bool") (u := .type "bool") (by rfl) T.b_bool (by decide +kernel) rfl) pa_nil))) (pe_callB call_isi (by rfl) T.b_isinstance (by decide +kernel) (pa_cons (pv 1) (pa_cons (pe_bltn (v := .ty "bool") (u := .type "bool") (by rfl) T.b_bool (by decide +kernel) rfl) pa_nil))) (nomark _)) (pe_one (pe_cmpR (op_or op_eq (op_eqSelf (Nat.lt_of_le_of_lt (Nat.add_le_add_left (by decide) _) hr.units))) (pv 0) (pv 1) (nomark _))))))) pss_nil)
        (pss_one (ps_ret (pe_and (pe_cmpR op_isBl (pe_callB call_isiT (by rfl) T.b_isinstance (by decide +kernel) (pa_cons (pv 0) (pa_cons (pe_tup (pa_cons (pe_bltn (v := .ty "bool") (u := .type "bool") (by rfl) T.b_bool (by decide +kernel) rfl) (pa_cons (pe_bltn (v := .ty "int") (u := .type "int") (by rfl) T.b_int (by decide +kernel) rfl) (pa_cons (pe_bltn (v := .ty "list") (u := .type "list") (by rfl) T.b_list (by decide +kernel) rfl) (pa_cons (pe_bltn (v := .ty "tuple") (u := .type "tuple") (by rfl) T.b_tuple (by decide +kernel) rfl) pa_nil))))) pa_nil))) pe_bl (nomark _)) (pe_one (pe_cmpR (op_or op_eq (op_eqSelf (Nat.lt_of_le_of_lt (Nat.add_le_add_left (by decide) _) hr.units))) (pv 0) (pv 1) (nomark _)))))))), ?_⟩
    have two : ∀ x : V, EvA (tCons (tC (.ty "list")) (tCons (tC (.ty "tuple")) tNil)) [some x, some y, none, none] H [.ty "list", .ty "tuple"] := fun _ => ea_cons ev_c (ea_cons ev_c ea_nil)
    rcases hxy with ⟨i, rfl, rfl⟩ | ⟨i, rfl, rfl⟩ | ⟨i, rfl, rfl⟩ | ⟨rfl, rfl⟩ | ⟨a, b, xs, ys, rfl, rfl, ha, hb, h1, h2, h3⟩ | ⟨a, b, xs, ys, rfl, rfl, ha, hb, h1, h2, h3⟩ | ⟨a, ks, rfl, rfl, ha, hd⟩
    · refine q_when (et_B (ev_isiT (ev_var rfl) (ea_cons ev_c (ea_cons ev_c ea_nil)) (by decide) pairT2 (fun _ _ => .base (.int i)) (kAny2 (by decide +kernel) (by decide +kernel)))) (fun z => nomatch z) fun _ H1 e1 => ?_
      refine q_when (et_B (ev_isi (b := true) (ev_var rfl) (.ty _) (fun _ _ => .base (.int i)) (kit_ty (by decide +kernel)))) (fun _ H2 e2 => ?_) (fun z => nomatch z)
      refine s_ret (ev_is (ev_andV (ev_isi (b := true) (ev_var rfl) (.ty _) (fun _ _ => .base (.int i)) (kit_ty (by decide +kernel))) fun _ => ev_andV (ev_op (ev_isi (b := false) (ev_var rfl) (.ty _) (fun _ _ => .base (.int i)) (kit_ty (by decide +kernel))) (ev_isi (b := false) (ev_var rfl) (.ty _) (fun _ _ => .base (.int i)) (kit_ty (by decide +kernel))) (rv_eq rfl)) fun _ => ev_op (ev_var rfl) (ev_var rfl) (rv_eqD rfl)) ?_) fun H3 e3 => k H3 (Ex.trans e1 (Ex.trans e2 e3))
      simp
    · refine q_when (et_B (ev_isiT (ev_var rfl) (ea_cons ev_c (ea_cons ev_c ea_nil)) (by decide) pairT2 (fun _ _ => .base (.bl i)) (kAny2 (by decide +kernel) (by decide +kernel)))) (fun z => nomatch z) fun _ H1 e1 => ?_
      refine q_when (et_B (ev_isi (b := true) (ev_var rfl) (.ty _) (fun _ _ => .base (.bl i)) (kit_ty (by decide +kernel)))) (fun _ H2 e2 => ?_) (fun z => nomatch z)
      refine s_ret (ev_is (ev_andV (ev_isi (b := true) (ev_var rfl) (.ty _) (fun _ _ => .base (.bl i)) (kit_ty (by decide +kernel))) fun _ => ev_andV (ev_op (ev_isi (b := true) (ev_var rfl) (.ty _) (fun _ _ => .base (.bl i)) (kit_ty (by decide +kernel))) (ev_isi (b := true) (ev_var rfl) (.ty _) (fun _ _ => .base (.bl i)) (kit_ty (by decide +kernel))) (rv_eq rfl)) fun _ => ev_op (ev_var rfl) (ev_var rfl) (rv_eqD rfl)) ?_) fun H3 e3 => k H3 (Ex.trans e1 (Ex.trans e2 e3))
      simp
    · refine q_when (et_B (ev_isiT (ev_var rfl) (ea_cons ev_c (ea_cons ev_c ea_nil)) (by decide) pairT2 (fun _ _ => .base (.str i)) (kAny2 (by decide +kernel) (by decide +kernel)))) (fun z => nomatch z) fun _ H1 e1 => ?_
      refine q_when (et_B (ev_isi (b := false) (ev_var rfl) (.ty _) (fun _ _ => .base (.str i)) (kit_ty (by decide +kernel)))) (fun z => nomatch z) (fun _ H2 e2 => ?_)
      refine s_ret (ev_is (ev_andV (ev_isB (ev_isiT (ev_var rfl) (ea_cons ev_c (ea_cons ev_c (ea_cons ev_c (ea_cons ev_c ea_nil)))) (by decide) pairT4 (fun _ _ => .base (.str i)) (kAny4 (by decide +kernel) (by decide +kernel) (by decide +kernel) (by decide +kernel))) ev_c) fun _ => ev_op (ev_var rfl) (ev_var rfl) (rv_eqD rfl)) ?_) fun H3 e3 => k H3 (Ex.trans e1 (Ex.trans e2 e3))
      simp
    · refine q_when (et_B (ev_isiT (ev_var rfl) (ea_cons ev_c (ea_cons ev_c ea_nil)) (by decide) pairT2 (fun _ _ => .base .non) (kAny2 (by decide +kernel) (by decide +kernel)))) (fun z => nomatch z) fun _ H1 e1 => ?_
      refine q_when (et_B (ev_isi (b := false) (ev_var rfl) (.ty _) (fun _ _ => .base .non) (kit_ty (by decide +kernel)))) (fun z => nomatch z) (fun _ H2 e2 => ?_)
      refine s_ret (ev_is (ev_andV (ev_isB (ev_isiT (ev_var rfl) (ea_cons ev_c (ea_cons ev_c (ea_cons ev_c (ea_cons ev_c ea_nil)))) (by decide) pairT4 (fun _ _ => .base .non) (kAny4 (by decide +kernel) (by decide +kernel) (by decide +kernel) (by decide +kernel))) ev_c) fun _ => ev_op (ev_var rfl) (ev_var rfl) (rv_eqD rfl)) ?_) fun H3 e3 => k H3 (Ex.trans e1 (Ex.trans e2 e3))
      simp
    · refine q_when (et_B (ev_isiT (ev_var rfl) (ea_cons ev_c (ea_cons ev_c ea_nil)) (by decide) pairT2 (fun H1 e => .base (.lst (e _ _ hb))) kAnyL)) (fun _ H1 e1 => ?_) (fun z => nomatch z)
      have ha1 := e1 _ _ ha
      have hb1 := e1 _ _ hb
      refine q_when (b := false) (et_is (et_or (et_test (ev_op (ev_isi (b := true) (ev_var rfl) (.ty _) (fun _ e => .base (.lst (e _ _ ha1))) (kit_ty (by decide +kernel))) (ev_isi (b := true) (ev_var rfl) (.ty _) (fun _ e => .base (.lst (e _ _ hb1))) (kit_ty (by decide +kernel))) (rv_ne rfl))) fun _ => et_test (ev_op (ev_isi (b := false) (ev_var rfl) (.ty _) (fun _ e => .base (.lst (e _ _ ha1))) (kit_ty (by decide +kernel))) (ev_isi (b := false) (ev_var rfl) (.ty _) (fun _ e => .base (.lst (e _ _ hb1))) (kit_ty (by decide +kernel))) (rv_ne rfl))) (by simp)) (fun z => nomatch z) fun _ H2 e2 => ?_
      have ha2 := e2 _ _ ha1
      have hb2 := e2 _ _ hb1
      have lc : EvL (tLc (iZipA K (tCons (tVar 0) (tCons (tVar 1) tNil))) (gTup K 2 (gCons (gName 2) (gCons (gName 3) gNil))) tYes (tCall (spSame d) [] E0 (tCons (tVar 2) (tCons (tVar 3) tNil))) [2, 3]) [some (.ref a), some (.ref b), none, none] H2 ((List.range xs.length).map fun _ => V.bl true) :=
        el_lcZ (fun _ => V.bl true) (ev_var rfl) (ev_var rfl) (.inl ⟨ha2, hb2⟩) h1 h2 (fun _ _ => rfl) fun n x y H3 e3 hx hy => ev_call (ea_cons (ev_var rfl) (ea_cons (ev_var rfl) ea_nil)) fun H4 e4 Q q E => ⟨x, y, rfl, (h3 n x y hx hy).ex (Ex.trans e1 (Ex.trans e2 (Ex.trans e3 e4))), fun H5 s5 => q H5 s5⟩
      have hall := ev_all (K := K) (bs := (List.range xs.length).map fun _ => true) (by rw [List.map_map]; exact lc)
      refine s_ret (ev_is (ev_andV (ev_op (ev_lenL (ev_var rfl) ha2) (ev_lenL (ev_var rfl) hb2) (rv_eq rfl)) fun _ => hall) ?_) fun H3 e3 => k H3 (Ex.trans e1 (Ex.trans e2 e3))
      rw [h1]
      simp
    · refine q_when (et_B (ev_isiT (ev_var rfl) (ea_cons ev_c (ea_cons ev_c ea_nil)) (by decide) pairT2 (fun H1 e => .base (.tup (e _ _ hb))) kAnyT)) (fun _ H1 e1 => ?_) (fun z => nomatch z)
      have ha1 := e1 _ _ ha
      have hb1 := e1 _ _ hb
      refine q_when (b := false) (et_is (et_or (et_test (ev_op (ev_isi (b := false) (ev_var rfl) (.ty _) (fun _ e => .base (.tup (e _ _ ha1))) (kit_ty (by decide +kernel))) (ev_isi (b := false) (ev_var rfl) (.ty _) (fun _ e => .base (.tup (e _ _ hb1))) (kit_ty (by decide +kernel))) (rv_ne rfl))) fun _ => et_test (ev_op (ev_isi (b := true) (ev_var rfl) (.ty _) (fun _ e => .base (.tup (e _ _ ha1))) (kit_ty (by decide +kernel))) (ev_isi (b := true) (ev_var rfl) (.ty _) (fun _ e => .base (.tup (e _ _ hb1))) (kit_ty (by decide +kernel))) (rv_ne rfl))) (by simp)) (fun z => nomatch z) fun _ H2 e2 => ?_
      have ha2 := e2 _ _ ha1
      have hb2 := e2 _ _ hb1
      have lc : EvL (tLc (iZipA K (tCons (tVar 0) (tCons (tVar 1) tNil))) (gTup K 2 (gCons (gName 2) (gCons (gName 3) gNil))) tYes (tCall (spSame d) [] E0 (tCons (tVar 2) (tCons (tVar 3) tNil))) [2, 3]) [some (.ref a), some (.ref b), none, none] H2 ((List.range xs.length).map fun _ => V.bl true) :=
        el_lcZ (fun _ => V.bl true) (ev_var rfl) (ev_var rfl) (.inr ⟨ha2, hb2⟩) h1 h2 (fun _ _ => rfl) fun n x y H3 e3 hx hy => ev_call (ea_cons (ev_var rfl) (ea_cons (ev_var rfl) ea_nil)) fun H4 e4 Q q E => ⟨x, y, rfl, (h3 n x y hx hy).ex (Ex.trans e1 (Ex.trans e2 (Ex.trans e3 e4))), fun H5 s5 => q H5 s5⟩
      have hall := ev_all (K := K) (bs := (List.range xs.length).map fun _ => true) (by rw [List.map_map]; exact lc)
      refine s_ret (ev_is (ev_andV (ev_op (ev_lenT (ev_var rfl) ha2) (ev_lenT (ev_var rfl) hb2) (rv_eq rfl)) fun _ => hall) ?_) fun H3 e3 => k H3 (Ex.trans e1 (Ex.trans e2 e3))
      rw [h1]
      simp
    · refine q_when (et_B (ev_isiT (ev_var rfl) (ea_cons ev_c (ea_cons ev_c ea_nil)) (by decide) pairT2 (fun _ e => .base (.dK (e _ _ ha))) (kAny2 (by decide +kernel) (by decide +kernel)))) (fun z => nomatch z) fun _ H1 e1 => ?_
      refine q_when (et_B (ev_isi (b := false) (ev_var rfl) (.ty _) (fun _ e => .base (.dK (e _ _ (e1 _ _ ha)))) (kit_ty (by decide +kernel)))) (fun z => nomatch z) (fun _ H2 e2 => ?_)
      refine s_ret (ev_is (ev_andV (ev_isB (ev_isiT (ev_var rfl) (ea_cons ev_c (ea_cons ev_c (ea_cons ev_c (ea_cons ev_c ea_nil)))) (by decide) pairT4 (fun _ e => .base (.dK (e _ _ (e2 _ _ (e1 _ _ ha))))) (kAny4 (by decide +kernel) (by decide +kernel) (by decide +kernel) (by decide +kernel))) ev_c) fun _ => ev_op (ev_var rfl) (ev_var rfl) (rv_eqDd (e2 _ _ (e1 _ _ ha)) hd)) ?_) fun H3 e3 => k H3 (Ex.trans e1 (Ex.trans e2 e3))
      simp
end
end Lm

namespace Lm
open PySem L2 Evl RZ
/-! ### things of lists and tuples, told by their shape -/
inductive Sh where
  | v (u : V)
  | l (ss : List Sh)
  | t (ss : List Sh)
/-- flat things -/
def flt (u : V) : Prop := (∃ i, u = .int i) ∨ (∃ b, u = .bl b) ∨ (∃ s, u = .str s) ∨ u = .non
/-- at x stands a thing of the shape s, of depth below d, of objects of B -/
def RepB (H : Hp) (B : Addr → Prop) : Nat → V → Sh → Prop
  | 0 => fun _ _ => False
  | d + 1 => fun x s => match s with
    | .v u => x = u ∧ flt u
    | .l ss => ∃ a xs, x = .ref a ∧ B a ∧ H a = some (.lst xs) ∧ xs.length = ss.length ∧ xs.length ≤ 40000 ∧ ∀ (i : Nat) y s', xs[i]? = some y → ss[i]? = some s' → RepB H B d y s'
    | .t ss => ∃ a xs, x = .ref a ∧ B a ∧ H a = some (.tup xs) ∧ xs.length = ss.length ∧ xs.length ≤ 40000 ∧ ∀ (i : Nat) y s', xs[i]? = some y → ss[i]? = some s' → RepB H B d y s'
abbrev Rep (H : Hp) : Nat → V → Sh → Prop := RepB H fun _ => True
theorem RepB.mono {H H' : Hp} {B B' : Addr → Prop} (e : ∀ a o, B a → H a = some o → (∀ ps, o ≠ .tbl ps) → B' a ∧ H' a = some o) : ∀ {d : Nat} {x : V} {s : Sh}, RepB H B d x s → RepB H' B' d x s
  | 0, _, _, h => h
  | d + 1, x, .v u, h => h
  | d + 1, x, .l ss, ⟨a, xs, h1, hb, h2, h3, h4, h5⟩ => let ⟨q1, q2⟩ := e a _ hb h2 (fun _ z => by cases z); ⟨a, xs, h1, q1, q2, h3, h4, fun i y s' q1 q2 => RepB.mono e (h5 i y s' q1 q2)⟩
  | d + 1, x, .t ss, ⟨a, xs, h1, hb, h2, h3, h4, h5⟩ => let ⟨q1, q2⟩ := e a _ hb h2 (fun _ z => by cases z); ⟨a, xs, h1, q1, q2, h3, h4, fun i y s' q1 q2 => RepB.mono e (h5 i y s' q1 q2)⟩
theorem RepB.ex {H H' : Hp} {B : Addr → Prop} (e : Ex H H') {d : Nat} {x : V} {s : Sh} (h : RepB H B d x s) : RepB H' B d x s := h.mono fun a o b q _ => ⟨b, e _ _ q⟩
theorem Rep.extn {H H' : Hp} (e : LamX.ExtN H H') {d : Nat} {x : V} {s : Sh} (h : Rep H d x s) : Rep H' d x s := RepB.mono (fun a o b q n => ⟨b, e _ _ q n⟩) h
theorem RepB.rep {H : Hp} {B : Addr → Prop} {d : Nat} {x : V} {s : Sh} (h : RepB H B d x s) : Rep H d x s := h.mono fun a o b q _ => ⟨trivial, q⟩
theorem RepB.imp {H : Hp} {B B' : Addr → Prop} (e : ∀ a, B a → H a ≠ none → B' a) {d : Nat} {x : V} {s : Sh} (h : RepB H B d x s) : RepB H B' d x s := h.mono fun a o b q _ => ⟨e a b (by rw [q]; simp), q⟩
theorem Rep.on {H : Hp} {d : Nat} {x : V} {s : Sh} (h : Rep H d x s) : RepB H (fun a => H a ≠ none) d x s := RepB.imp (fun a _ q => q) h
theorem RepB.up {H : Hp} {B : Addr → Prop} : ∀ {d : Nat} {x : V} {s : Sh}, RepB H B d x s → RepB H B (d + 1) x s
  | 0, _, _, h => h.elim
  | d + 1, x, .v u, h => h
  | d + 1, x, .l ss, ⟨a, xs, h1, hb, h2, h3, h4, h5⟩ => ⟨a, xs, h1, hb, h2, h3, h4, fun i y s' q1 q2 => RepB.up (h5 i y s' q1 q2)⟩
  | d + 1, x, .t ss, ⟨a, xs, h1, hb, h2, h3, h4, h5⟩ => ⟨a, xs, h1, hb, h2, h3, h4, fun i y s' q1 q2 => RepB.up (h5 i y s' q1 q2)⟩
theorem flt.same {H : Hp} {d : Nat} {u : V} (h : flt u) : SameV H (d + 1) u u := by
  rcases h with ⟨i, rfl⟩ | ⟨i, rfl⟩ | ⟨i, rfl⟩ | rfl
  · exact .int i
  · exact .bl i
  · exact .str i
  · exact .non
theorem Rep.same {H : Hp} : ∀ {d : Nat} {x y : V} {s : Sh}, Rep H d x s → Rep H d y s → SameV H d x y
  | 0, _, _, _, h, _ => h.elim
  | d + 1, x, y, .v u, ⟨h1, h2⟩, ⟨g1, _⟩ => by
    subst h1 g1
    exact h2.same
  | d + 1, x, y, .l ss, ⟨a, xs, h1, _, h2, h3, h4, h5⟩, ⟨b, ys, g1, _, g2, g3, g4, g5⟩ => by
    subst h1 g1
    exact .lst h2 g2 (h3.trans g3.symm) h4 fun i u v q1 q2 => by
      have hi : i < ss.length := by rw [← h3]; exact (List.getElem?_eq_some_iff.mp q1).1
      exact Rep.same (h5 i u _ q1 (List.getElem?_eq_getElem hi)) (g5 i v _ q2 (List.getElem?_eq_getElem hi))
  | d + 1, x, y, .t ss, ⟨a, xs, h1, _, h2, h3, h4, h5⟩, ⟨b, ys, g1, _, g2, g3, g4, g5⟩ => by
    subst h1 g1
    exact .tup h2 g2 (h3.trans g3.symm) h4 fun i u v q1 q2 => by
      have hi : i < ss.length := by rw [← h3]; exact (List.getElem?_eq_some_iff.mp q1).1
      exact Rep.same (h5 i u _ q1 (List.getElem?_eq_getElem hi)) (g5 i v _ q2 (List.getElem?_eq_getElem hi))
theorem rep_flat {H : Hp} {B : Addr → Prop} {d : Nat} {a : Addr} {xs : List V} (hb : B a) (h : H a = some (.lst xs)) (hl : xs.length ≤ 40000) (hf : ∀ x ∈ xs, flt x) : RepB H B (d + 2) (.ref a) (.l (xs.map .v)) :=
  ⟨a, xs, rfl, hb, h, by simp, hl, fun i y s' q1 q2 => by
    rw [List.getElem?_map, q1] at q2
    cases (Option.some.inj q2)
    exact ⟨rfl, hf y (List.mem_of_getElem? q1)⟩⟩
theorem rep_flatT {H : Hp} {B : Addr → Prop} {d : Nat} {a : Addr} {xs : List V} (hb : B a) (h : H a = some (.tup xs)) (hl : xs.length ≤ 40000) (hf : ∀ x ∈ xs, flt x) : RepB H B (d + 2) (.ref a) (.t (xs.map .v)) :=
  ⟨a, xs, rfl, hb, h, by simp, hl, fun i y s' q1 q2 => by
    rw [List.getElem?_map, q1] at q2
    cases (Option.some.inj q2)
    exact ⟨rfl, hf y (List.mem_of_getElem? q1)⟩⟩
/-- what stood in H, or is new behind H1 -/
def Nb (H H1 : Hp) (a : Addr) : Prop := H a ≠ none ∨ H1 a = none
theorem Nb.back {H H1 H2 : Hp} {a : Addr} (e : Ex H1 H2) (h : Nb H H2 a) : Nb H H1 a := h.imp id (fresh_back e)
/-- a thing of a shape is told -/
def EvS (te : TE) (σ : L2.St) (H : Hp) (d : Nat) (s : Sh) : Prop := ∀ H1, Ex H H1 → ∀ Q : VK, (∀ v H2, Ex H1 H2 → RepB H2 (Nb H H1) d v s → Q v H2) → te σ H1 Q
def RepA (H : Hp) (B : Addr → Prop) (d : Nat) (vs : List V) (ss : List Sh) : Prop := vs.length = ss.length ∧ ∀ (i : Nat) y s', vs[i]? = some y → ss[i]? = some s' → RepB H B d y s'
def EvSA (ta : TA) (σ : L2.St) (H : Hp) (d : Nat) (ss : List Sh) : Prop := ∀ H1, Ex H H1 → ∀ Q : List V → Hp → Prop, (∀ vs H2, Ex H1 H2 → RepA H2 (Nb H H1) d vs ss → Q vs H2) → ta σ H1 Q
section
variable {K : PySem.W.Frag} {σ : L2.St} {H H' : Hp} {te ta tb : TE} {tr : TA} {d : Nat} {s : Sh} {ss : List Sh} {B : Addr → Prop}
theorem EvS.mono (e : Ex H H') (h : EvS te σ H d s) : EvS te σ H' d s := fun H1 a Q q => h H1 (e.trans a) Q fun v H2 e2 r => q v H2 e2 (r.imp fun b hb _ => hb.imp (fun z => by
  cases hh : H b with
  | none => exact absurd hh z
  | some o => rw [e _ _ hh]; simp) id)
theorem es_is {s' : Sh} (h : EvS te σ H d s) (e : s = s') : EvS te σ H d s' := e ▸ h
theorem es_up (h : EvS te σ H d s) : EvS te σ H (d + 1) s := fun H1 e Q q => h H1 e _ fun v H2 e2 r => q v H2 e2 r.up
theorem es_v {u : V} (h : Ev te σ H u) (hf : flt u) : EvS te σ H (d + 1) (.v u) := fun H1 e Q q => h H1 e _ fun H2 e2 => q u H2 e2 ⟨rfl, hf⟩
theorem es_i {i : Int} (h : Ev te σ H (.int i)) : EvS te σ H (d + 1) (.v (.int i)) := es_v h (.inl ⟨i, rfl⟩)
theorem es_b {i : Bool} (h : Ev te σ H (.bl i)) : EvS te σ H (d + 1) (.v (.bl i)) := es_v h (.inr (.inl ⟨i, rfl⟩))
theorem es_s {i : Str} (h : Ev te σ H (.str i)) : EvS te σ H (d + 1) (.v (.str i)) := es_v h (.inr (.inr (.inl ⟨i, rfl⟩)))
theorem es_n (h : Ev te σ H .non) : EvS te σ H (d + 1) (.v .non) := es_v h (.inr (.inr (.inr rfl)))
theorem es_var {i : Nat} {v : V} (h : σ[i]? = some (some v)) (hr : Rep H d v s) : EvS (tVar i) σ H d s := fun H1 e Q q => ⟨v, h, q v H1 (Ex.refl _) (RepB.imp (fun a h _ => .inl h) (RepB.ex e hr.on))⟩
theorem es_nil : EvSA tNil σ H d [] := fun H1 _ _ q => q [] H1 (Ex.refl _) ⟨rfl, fun i y s' h => by simp at h⟩
theorem RepA.cons {v : V} {vs : List V} (h : RepB H B d v s) (hr : RepA H B d vs ss) : RepA H B d (v :: vs) (s :: ss) := ⟨by simp [hr.1], fun i y s' q1 q2 => by
  cases i with
  | zero =>
    cases (Option.some.inj q1)
    cases (Option.some.inj q2)
    exact h
  | succ i => exact hr.2 i y s' q1 q2⟩
theorem RepA.ex {vs : List V} (e : Ex H H') (h : RepA H B d vs ss) : RepA H' B d vs ss := ⟨h.1, fun i y s' q1 q2 => (h.2 i y s' q1 q2).ex e⟩
theorem RepA.imp {B' : Addr → Prop} {vs : List V} (e : ∀ a, B a → B' a) (h : RepA H B d vs ss) : RepA H B' d vs ss := ⟨h.1, fun i y s' q1 q2 => (h.2 i y s' q1 q2).imp fun a b _ => e a b⟩
theorem es_cons (h : EvS ta σ H d s) (hr : EvSA tr σ H d ss) : EvSA (tCons ta tr) σ H d (s :: ss) := fun H1 e Q q => h H1 e _ fun v H2 e2 r2 => hr H2 (Ex.trans e e2) _ fun vs H3 e3 r3 => q (v :: vs) H3 (Ex.trans e2 e3) (.cons (r2.ex e3) (r3.imp fun a b => b.back e2))
theorem es_lst (h : EvSA tr σ H d ss) (hl : ss.length ≤ 40000) : EvS (tLst tr) σ H (d + 1) (.l ss) := fun H1 e Q q => h H1 e _ fun vs H2 e2 r2 => ⟨sz_of (by rw [r2.1]; omega), fun p np => q (.ref p) _ (Ex.trans e2 (Ex.new np)) ⟨p, vs, rfl, .inr (fresh_back e2 np), upd_same, r2.1, by rw [r2.1]; exact hl, (r2.ex (Ex.new np)).2⟩⟩
theorem es_tup (h : EvSA tr σ H d ss) (hl : ss.length ≤ 40000) : EvS (tTup tr) σ H (d + 1) (.t ss) := fun H1 e Q q => h H1 e _ fun vs H2 e2 r2 => ⟨sz_of (by rw [r2.1]; omega), fun p np => q (.ref p) _ (Ex.trans e2 (Ex.new np)) ⟨p, vs, rfl, .inr (fresh_back e2 np), upd_same, r2.1, by rw [r2.1]; exact hl, (r2.ex (Ex.new np)).2⟩⟩
theorem es_ofL {xs : List V} (h : EvL te σ H xs) (hl : xs.length ≤ 40000) (hf : ∀ x ∈ xs, flt x) : EvS te σ H (d + 2) (.l (xs.map .v)) := fun H1 e Q q => h H1 e _ fun p H2 np e2 hp => q (.ref p) H2 e2 (rep_flat (.inr np) hp hl hf)
theorem es_ofU {xs : List V} (h : EvU te σ H xs) (hl : xs.length ≤ 40000) (hf : ∀ x ∈ xs, flt x) : EvS te σ H (d + 2) (.t (xs.map .v)) := fun H1 e Q q => h H1 e _ fun p H2 np e2 hp => q (.ref p) H2 e2 (rep_flatT (.inr np) hp hl hf)
/-- the same shape is the same -/
theorem ev_sameS (h1 : EvS ta σ H d s) (h2 : EvS tb σ H d s) : Ev (tCall (spSame d) [] E0 (tCons ta (tCons tb tNil))) σ H (.bl true) := fun H1 e Q q =>
  h1 H1 e _ fun v H2 e2 r2 => h2 H2 (Ex.trans e e2) _ fun u H3 e3 r3 => ⟨v, u, rfl, Rep.same (RepB.ex e3 r2.rep) r3.rep, fun H4 e4 => q H4 (Ex.trans e2 (Ex.trans e3 e4))⟩
/-- behind i turns of a comprehension -/
def CwS (H H1 : Hp) (d : Nat) (g : Nat → Sh) (D : Addr) (i : Nat) (H' : Hp) : Prop := H D = none ∧ H1 D = none ∧ Ex H1 H' ∧ ∃ vs, H' D = some (.lst vs) ∧ vs.length = i ∧ ∀ (k : Nat) y, vs[k]? = some y → RepB H' (fun a => Nb H H1 a ∧ a ≠ D) d y (g k)
theorem cws_turn {H H1 H' : Hp} {d : Nat} {g : Nat → Sh} {D : Addr} {i : Nat} {σ2 : L2.St} {te : TE} (e : Ex H H1) (p : CwS H H1 d g D i H') (hi : i < 50000) (he : EvS te σ2 H d (g i)) :
    tYes σ2 H' fun b H3 => if b = true then te σ2 H3 fun y H4 => ∃ acc, H4 D = some (.lst acc) ∧ acc.length < sizeLine ∧ CwS H H1 d g D (i + 1) (upd H4 D (.lst (acc ++ [y]))) else CwS H H1 d g D (i + 1) H3 := by
  obtain ⟨p0, p1, p2, vs, p3, p4, p5⟩ := p
  show te σ2 H' _
  refine he H' (Ex.trans e p2) _ fun v H4 e4 r4 => ?_
  have hD4 := e4 _ _ p3
  have up : ∀ {k : Nat} {y : V} {s : Sh}, RepB H4 (fun a => Nb H H1 a ∧ a ≠ D) d y s → RepB (upd H4 D (.lst (vs ++ [v]))) (fun a => Nb H H1 a ∧ a ≠ D) d y s := fun h => h.mono fun a o b q _ => ⟨b, by rw [upd_ne b.2]; exact q⟩
  refine ⟨vs, hD4, sz_lt (by omega), p0, p1, Ex.mut (Ex.trans p2 e4) p1, vs ++ [v], upd_same, by simp [p4], fun k y hy => ?_⟩
  rcases Nat.lt_or_ge k vs.length with hk | hk
  · rw [List.getElem?_append_left hk] at hy
    exact up (k := 0) ((p5 k y hy).ex e4)
  · rw [List.getElem?_append_right hk] at hy
    cases q : k - vs.length with
    | zero =>
      rw [q] at hy
      cases hy
      have : k = i := by omega
      rw [this]
      refine up (k := 0) (r4.imp fun a hb _ => ⟨hb.back p2, fun z => ?_⟩)
      subst z
      rcases hb with hb | hb
      · exact hb p0
      · rw [p3] at hb; cases hb
    | succ m => rw [q] at hy; simp at hy
theorem cws_end {H H1 H' : Hp} {d : Nat} {g : Nat → Sh} {D : Addr} {n : Nat} (p : CwS H H1 d g D n H') (hn : n ≤ 40000) : RepB H' (Nb H H1) (d + 1) (.ref D) (.l ((List.range n).map g)) := by
  obtain ⟨p0, p1, p2, vs, p3, p4, p5⟩ := p
  refine ⟨D, vs, rfl, .inr p1, p3, by simp [p4], by omega, fun i y s' q1 q2 => ?_⟩
  have hi : i < n := by rw [← p4]; exact (List.getElem?_eq_some_iff.mp q1).1
  rw [List.getElem?_map, List.getElem?_range hi] at q2
  cases (Option.some.inj q2)
  exact (p5 i y q1).imp fun a b _ => b.1
/-- [e for k in range(n)] -/
theorem es_lcR {ta : TA} {j n : Nat} {g : Nat → Sh} (h : EvA ta σ H [.int (n : Int)]) (hn : n ≤ 40000) (he : ∀ k < n, EvS te ((wipe σ [j]).set j (some (.int (k : Nat)))) H d (g k)) : EvS (tLc (iRng1 ta) (gName j) tYes te [j]) σ H (d + 1) (.l ((List.range n).map g)) := fun H0 e Q q => h H0 e _ fun H1 e1 => by
  have E1 := Ex.trans e e1
  refine ⟨(n : Int), rfl, by omega, by omega, fun Dl hD => ?_⟩
  refine lc_range (lo := 0) (n := ((n : Int)).toNat) (CwS H H1 d g Dl) ⟨fresh_back E1 hD, hD, Ex.new hD, [], upd_same, rfl, fun k y hy => by simp at hy⟩ (fun i H' hi p => ?_) (fun H' p => ?_)
  · have e0 : (0 : Int) + (i : Int) = (i : Int) := Int.zero_add _
    rw [e0]
    refine ⟨?_, cws_turn E1 p (by omega) (he i (by omega))⟩
    show ((σ.set j none).set j (some (.int (i : Int)))).set j none = σ.set j none
    simp
  · have p' : CwS H H1 d g Dl n H' := by simpa using p
    exact q (.ref Dl) H' (Ex.trans e1 p'.2.2.1) ((cws_end p' hn).imp fun a b _ => b.back e1)
/-- [e for x in l] -/
theorem es_lcL {tl : TE} {j : Nat} {a : Addr} {xs : List V} {g : Nat → Sh} (h : Ev tl σ H (.ref a)) (ha : H a = some (.lst xs)) (hn : xs.length ≤ 40000) (he : ∀ (k : Nat) x, xs[k]? = some x → EvS te ((wipe σ [j]).set j (some x)) H d (g k)) : EvS (tLc (iList K tl) (gName j) tYes te [j]) σ H (d + 1) (.l ((List.range xs.length).map g)) := fun H0 e Q q => h H0 e _ fun H1 e1 => by
  have E1 := Ex.trans e e1
  refine ⟨a, rfl, ⟨xs, sq_of (E1 _ _ ha)⟩, fun Dl hD => ?_⟩
  refine lc_list (xs := xs) (CwS H H1 d g Dl) ⟨fresh_back E1 hD, hD, Ex.new hD, [], upd_same, rfl, fun k y hy => by simp at hy⟩ (fun i H' _ p => sq_of (p.2.2.1 _ _ (E1 _ _ ha))) (fun i x H' hx p => ?_) (fun H' p => ?_)
  · refine ⟨?_, cws_turn E1 p (by have := (List.getElem?_eq_some_iff.mp hx).1; omega) (he i x hx)⟩
    show ((σ.set j none).set j (some x)).set j none = σ.set j none
    simp
  · exact q (.ref Dl) H' (Ex.trans e1 p.2.2.1) ((cws_end p hn).imp fun a b _ => b.back e1)
theorem s_asgS {D : Ends} {i : Nat} (h : EvS te σ H d s) (k : ∀ v H1, Ex H H1 → Rep H1 d v s → D.nx (σ.set i (some v)) H1) : tAsg te (gName i) D σ H := h H (Ex.refl H) _ fun v H1 e r => k v H1 e r.rep
theorem q_asgS {tz : TS} {D : Ends} {i : Nat} (h : EvS te σ H d s) (k : ∀ v H1, Ex H H1 → Rep H1 d v s → tz D (σ.set i (some v)) H1) : tSeq (tAsg te (gName i)) tz D σ H := s_asgS (D := { D with nx := tz D }) h k
end
end Lm

namespace Lm
open PySem L2 Evl RZ LamX
/-! ### what several calls, each tried, tell: a list that grows -/
/-- free in H, or a table -/
def Fr (H : Hp) (a : Addr) : Prop := ∀ o, H a = some o → ∃ ps, o = .tbl ps
theorem Fr.back {H H' : Hp} {a : Addr} (e : ExtN H H') (h : Fr H' a) : Fr H a := fun o ho => Classical.byContradiction fun hc => hc (h o (e _ _ ho fun ps z => hc ⟨ps, z⟩))
theorem Fr.of {H : Hp} {a : Addr} (h : H a = none) : Fr H a := fun o ho => by rw [h] at ho; cases ho
theorem Fr.ne {H : Hp} {a b : Addr} {xs : List V} (h : Fr H a) (hb : H b = some (.lst xs)) : a ≠ b := fun z => by
  subst z
  obtain ⟨ps, q⟩ := h _ hb
  cases q
/-- a tried call tells a thing of the shape s -/
def TrS (Tl : List (Addr × Str)) (te : TE) (σ : L2.St) (H : Hp) (d : Nat) (s : Sh) : Prop := ∀ H1, ExtN H H1 → Tabs Tl H1 → ∀ Q : VK, (∀ v H2, ExtN H1 H2 → Tabs Tl H2 → RepB H2 (Fr H1) d v s → Q v H2) → te σ H1 Q
theorem TrS.extn {Tl : List (Addr × Str)} {te : TE} {σ : L2.St} {H H' : Hp} {d : Nat} {s : Sh} (e : ExtN H H') (h : TrS Tl te σ H d s) : TrS Tl te σ H' d s := fun H1 e1 T1 Q q => h H1 (e.trans e1) T1 Q q
section
variable {Cl : VK → XK} {post : V → Hp → VK → Prop} {Tl : List (Addr × Str)} {C : Addr} {fn tag : Str} {x : V} {σ : L2.St} {H : Hp} {t : XK → TE} {d : Nat}
theorem tr_err (hC : ∀ Q cls d H, ClF C fn tag Q cls d H → Cl Q cls d H) (hx : flt x)
    (h : ∀ H1, ExtN H H1 → ∀ (E : XK) (R : VK), (∀ H' d, Ex H1 H' → H' d = none → E (.ref C) (some d) (upd H' d (.xd [(fn, x)]))) → t E σ H1 R) : TrS Tl (tLam Tl (TTtr Cl post) t) σ H (d + 2) (.t [.v (.str tag), .v x]) := fun H1 e1 T1 Q q =>
  go_trA (x := x) T1 hC (fun H2 e2 E R hE => h H2 (e1.trans e2) E R hE) fun p H2 e2 T2 np hp => q (.ref p) H2 e2 T2 (rep_flatT (xs := [.str tag, x]) np hp (by show 2 ≤ 40000; decide) fun y hy => by
    simp only [List.mem_cons, List.not_mem_nil, or_false] at hy
    rcases hy with rfl | rfl
    · exact .inr (.inr (.inl ⟨_, rfl⟩))
    · exact hx)
theorem tr_oth (hC : ∀ Q cls d H, ClO C tag Q cls d H → Cl Q cls d H) (h : ∀ H1, ExtN H H1 → ∀ (E : XK) (R : VK), (∀ H', Ex H1 H' → E (.ref C) none H') → t E σ H1 R) : TrS Tl (tLam Tl (TTtr Cl post) t) σ H (d + 2) (.t [.v (.str tag)]) := fun H1 e1 T1 Q q =>
  go_trO T1 hC (fun H2 e2 E R hE => h H2 (e1.trans e2) E R hE) fun p H2 e2 T2 np hp => q (.ref p) H2 e2 T2 (rep_flatT (xs := [.str tag]) np hp (by show 1 ≤ 40000; decide) fun y hy => by
    rw [List.mem_singleton.mp hy]
    exact .inr (.inr (.inl ⟨_, rfl⟩)))
theorem tr_told (hx : flt x) (h : ∀ H1, ExtN H H1 → Tabs Tl H1 → ∀ (E : XK) (R : VK), (∀ H', Ex H1 H' → R x H') → t E σ H1 R) : TrS Tl (tLam Tl (TTtr Cl (pTold tag)) t) σ H (d + 2) (.t [.v (.str tag), .v x]) := fun H1 e1 T1 Q q => by
  refine ⟨T1, fun H2 e2 T2 p0 np0 E R _ hR => ?_⟩
  have s0 : Ex H2 (upd H2 p0 (.tup [.str "odd"])) := Ex.new np0
  refine h _ ((e1.trans e2).trans (.of s0)) (T2.ext s0) E R fun H' s => hR _ _ fun p np => ?_
  have s1 : Ex H2 (upd H' p (.tup [.str tag, x])) := Ex.trans s0 (Ex.trans s (Ex.new np))
  refine q (.ref p) _ (e2.trans (.of s1)) (T2.ext s1) (rep_flatT (xs := [.str tag, x]) (Fr.back e2 (Fr.of (fresh_back (Ex.trans s0 s) np))) upd_same (by show 2 ≤ 40000; decide) fun y hy => ?_)
  simp only [List.mem_cons, List.not_mem_nil, or_false] at hy
  rcases hy with rfl | rfl
  · exact .inr (.inr (.inl ⟨_, rfl⟩))
  · exact hx
end
/-- the list at l of what was found -/
structure Fnd (Tl : List (Addr × Str)) (H0 : Hp) (l : Addr) (d : Nat) (ss : List Sh) (H : Hp) : Prop where
  ex : ExtN H0 H
  nl : Fr H0 l
  tb : Tabs Tl H
  ls : ∃ xs, H l = some (.lst xs) ∧ RepA H (fun a => a ≠ l) d xs ss
section
variable {K : PySem.W.Frag} {Tl : List (Addr × Str)} {te : TE} {tz : TS} {D : Ends} {σ : L2.St} {H0 H : Hp} {l : Addr} {d i : Nat} {s : Sh} {ss : List Sh}
theorem Fnd.rep (F : Fnd Tl H0 l d ss H) (hl : ss.length ≤ 40000) : Rep H (d + 1) (.ref l) (.l ss) := by
  obtain ⟨xs, h1, h2, h3⟩ := F.ls
  exact ⟨l, xs, rfl, trivial, h1, h2, by omega, fun i y s' q1 q2 => (h3 i y s' q1 q2).rep⟩
theorem Tabs_mutL {T : List (Addr × Str)} {H : Hp} {l : Addr} {xs : List V} {o : HO} (t : LamX.Tabs T H) (hl : H l = some (.lst xs)) : LamX.Tabs T (upd H l o) := fun p hp => by
  obtain ⟨ps, h1, h2, h3⟩ := t p hp
  refine ⟨ps, by rw [upd_ne (ne_of h1 hl (by intro z; cases z))]; exact h1, h2, fun pos cv hc => ?_⟩
  obtain ⟨c, e1, e2⟩ := h3 pos cv hc
  exact ⟨c, e1, by rw [upd_ne (ne_of e2 hl (by intro z; cases z))]; exact e2⟩
theorem ExtN_mutL {H H' : Hp} {l : Addr} {o : HO} (e : LamX.ExtN H H') (nl : Fr H l) : LamX.ExtN H (upd H' l o) := fun b u h n => by
  rw [upd_ne (fun z => by subst z; obtain ⟨ps, q⟩ := nl u h; exact n ps q)]
  exact e b u h n
theorem RepA_snoc {H : Hp} {B : Addr → Prop} {d : Nat} {vs : List V} {ss : List Sh} {v : V} {s : Sh} (h : RepA H B d vs ss) (hv : RepB H B d v s) : RepA H B d (vs ++ [v]) (ss ++ [s]) := ⟨by simp [h.1], fun i y s' q1 q2 => by
  rcases Nat.lt_or_ge i vs.length with hi | hi
  · rw [List.getElem?_append_left hi] at q1
    rw [List.getElem?_append_left (by rw [← h.1]; exact hi)] at q2
    exact h.2 i y s' q1 q2
  · rw [List.getElem?_append_right hi] at q1
    rw [List.getElem?_append_right (by rw [← h.1]; exact hi), ← h.1] at q2
    cases q : i - vs.length with
    | zero =>
      rw [q] at q1 q2
      cases q1
      cases q2
      exact hv
    | succ n => rw [q] at q1; simp at q1⟩
theorem go_fst (T : Tabs Tl H) (h : TrS Tl te σ H d s) (k : ∀ l H1, Fnd Tl H l d [s] H1 → tz D (σ.set i (some (.ref l))) H1) : tSeq (tAsg (tLst (tCons te tNil)) (gName i)) tz D σ H :=
  h H (ExtN.refl _) T _ fun v H1 e1 T1 r1 => ⟨by show 1 ≤ sizeLine; decide, fun l nl => k l _ ⟨e1.trans (.of (Ex.new nl)), Fr.back e1 (Fr.of nl), T1.ext (Ex.new nl), [v], upd_same, RepA.cons (r1.mono fun a o hb ho _ => ⟨ne_of_none ho nl, by rw [upd_ne (ne_of_none ho nl)]; exact ho⟩) ⟨rfl, fun i y s' z => by simp at z⟩⟩⟩
theorem go_nxt (F : Fnd Tl H0 l d ss H) (hi : σ[i]? = some (some (.ref l))) (hn : ss.length ≤ 900) (h : TrS Tl te σ H d s) (k : ∀ H1, Fnd Tl H0 l d (ss ++ [s]) H1 → tz D σ H1) : tSeq (tDrop (tBM K "list" rAppend (tVar i) (tCons te tNil))) tz D σ H := by
  obtain ⟨xs, h1, h2⟩ := F.ls
  refine ⟨_, hi, .inl ⟨rfl, _, SqL.of h1⟩, ?_⟩
  refine h H (ExtN.refl _) F.tb _ fun v H1 e1 T1 r1 => ?_
  have hl1 := e1 _ _ h1 (fun _ z => by cases z)
  refine ⟨l, _, _, rfl, rfl, hl1, sz_lt (by rw [h2.1]; omega), k _ ⟨ExtN_mutL (F.ex.trans e1) F.nl, F.nl, Tabs_mutL T1 hl1, _, upd_same, RepA_snoc ⟨h2.1, fun i y s' q1 q2 => (h2.2 i y s' q1 q2).mono fun a o hb ho hn => ⟨hb, by rw [upd_ne hb]; exact e1 _ _ ho hn⟩⟩ (r1.mono fun a o hb ho _ => ?_)⟩⟩
  have hal : a ≠ l := hb.ne h1
  exact ⟨hal, by rw [upd_ne hal]; exact ho⟩
end
/-! ### lists told one behind another -/
theorem RepA_app {H : Hp} {B : Addr → Prop} {d : Nat} {vs us : List V} {ss ts : List Sh} (h : RepA H B d vs ss) (h2 : RepA H B d us ts) : RepA H B d (vs ++ us) (ss ++ ts) := ⟨by simp [h.1, h2.1], fun i y s' q1 q2 => by
  rcases Nat.lt_or_ge i vs.length with hi | hi
  · rw [List.getElem?_append_left hi] at q1
    rw [List.getElem?_append_left (by rw [← h.1]; exact hi)] at q2
    exact h.2 i y s' q1 q2
  · rw [List.getElem?_append_right hi] at q1
    rw [List.getElem?_append_right (by rw [← h.1]; exact hi), ← h.1] at q2
    exact h2.2 _ y s' q1 q2⟩
theorem RepA_nil {H : Hp} {B : Addr → Prop} {d : Nat} : RepA H B d [] [] := ⟨rfl, fun i y s' z => by simp at z⟩
theorem RepA_rep {H : Hp} {B : Addr → Prop} {d : Nat} {vs : List V} {ss : List Sh} (h : RepA H B d vs ss) : ∀ n, RepA H B d (List.replicate n vs).flatten (List.replicate n ss).flatten
  | 0 => RepA_nil
  | n + 1 => by
    rw [List.replicate_succ, List.replicate_succ, List.flatten_cons, List.flatten_cons]
    exact RepA_app h (RepA_rep h n)
theorem flat_len {α : Type} (l : List α) : ∀ n, (List.replicate n l).flatten.length = n * l.length
  | 0 => by simp
  | n + 1 => by rw [List.replicate_succ, List.flatten_cons, List.length_append, flat_len l n, Nat.succ_mul, Nat.add_comm]
theorem rep_l {H : Hp} {B : Addr → Prop} {d : Nat} {v : V} {ss : List Sh} (h : RepB H B (d + 1) v (.l ss)) : ∃ a xs, v = .ref a ∧ B a ∧ H a = some (.lst xs) ∧ RepA H B d xs ss := by
  obtain ⟨a, xs, h1, h2, h3, h4, h5, h6⟩ := h
  exact ⟨a, xs, h1, h2, h3, h4, h6⟩
section
variable {σ : L2.St} {H : Hp} {ta tb : TE} {d n : Nat} {ss ts : List Sh}
theorem es_cat (h1 : EvS ta σ H (d + 1) (.l ss)) (h2 : EvS tb σ H (d + 1) (.l ts)) (hl : ss.length + ts.length ≤ 40000) : EvS (tOp rCat ta tb) σ H (d + 1) (.l (ss ++ ts)) := fun H1 e Q q => h1 H1 e _ fun v H2 e2 r2 => h2 H2 (Ex.trans e e2) _ fun u H3 e3 r3 => by
  obtain ⟨a, xs, rfl, ba, ha, ra⟩ := rep_l r2
  obtain ⟨b, ys, rfl, bb, hb, rb⟩ := rep_l r3
  refine ⟨a, b, xs, ys, rfl, rfl, e3 _ _ ha, hb, sz_of (by rw [ra.1, rb.1]; omega), fun p np => q (.ref p) _ (Ex.trans e2 (Ex.trans e3 (Ex.new np))) ?_⟩
  refine ⟨p, xs ++ ys, rfl, .inr (fresh_back (Ex.trans e2 e3) np), upd_same, by rw [List.length_append, List.length_append, ra.1, rb.1], by rw [List.length_append, ra.1, rb.1]; exact hl, (RepA_app ((ra.ex e3).ex (Ex.new np)) ((rb.imp fun a b => b.back e2).ex (Ex.new np))).2⟩
theorem es_rep (h1 : EvS ta σ H (d + 1) (.l ss)) (h2 : Ev tb σ H (.int (n : Int))) (hl : ss.length * n ≤ 40000) (hn : n ≤ 40000) : EvS (tOp rRep ta tb) σ H (d + 1) (.l (List.replicate n ss).flatten) := fun H1 e Q q => h1 H1 e _ fun v H2 e2 r2 => h2 H2 (Ex.trans e e2) _ fun H3 e3 => by
  obtain ⟨a, xs, rfl, ba, ha, ra⟩ := rep_l r2
  refine ⟨a, (n : Int), xs, rfl, rfl, e3 _ _ ha, by omega, by omega, sz_of (by rw [ra.1, Int.toNat_natCast]; omega), fun p np => q (.ref p) _ (Ex.trans e2 (Ex.trans e3 (Ex.new np))) ?_⟩
  have r := RepA_rep ((ra.ex e3).ex (Ex.new np (o := .lst (List.replicate ((n : Int)).toNat xs).flatten))) n
  refine ⟨p, (List.replicate ((n : Int)).toNat xs).flatten, rfl, .inr (fresh_back (Ex.trans e2 e3) np), upd_same, ?_, ?_, ?_⟩
  · rw [Int.toNat_natCast]; exact r.1
  · rw [Int.toNat_natCast, r.1, flat_len, Nat.mul_comm]; exact hl
  · rw [Int.toNat_natCast]
    rw [Int.toNat_natCast] at r
    exact r.2
end
theorem ev_intI {σ : L2.St} {H : Hp} {te : TE} {i : Int} (h : Ev te σ H (.int i)) : Ev (tCB (fun xs H Q => (∃ i, xs = [V.int i] ∧ Q (V.int i) H) ∨ ∃ k, xs = [V.bl k] ∧ Q (V.int (if k = true then 1 else 0)) H) (tCons te tNil)) σ H (.int i) := fun H1 e Q q => h H1 e _ fun H2 e2 => .inl ⟨i, rfl, q H2 e2⟩
end Lm

namespace Lm
open PySem L2 Evl RZ
def SeqAt (H : Hp) (a : Addr) (xs : List V) : Prop := H a = some (.lst xs) ∨ H a = some (.tup xs)
theorem wipe1 (σ : L2.St) (j : Nat) (x : V) : wipe ((wipe σ [j]).set j (some x)) [j] = wipe σ [j] := by
  show ((σ.set j none).set j (some x)).set j none = σ.set j none
  simp
theorem given_true (n : Nat) (v : Nat → V) : given n (fun _ => true) v = (List.range n).map v := by
  unfold given
  rw [List.filter_eq_self.mpr fun _ _ => rfl]
theorem range_mapD {α β : Type} (l : List α) (g : α → β) (d : β) : (List.range l.length).map (fun i => (l.map g).getD i d) = l.map g := by
  refine List.ext_getElem? fun i => ?_
  rw [List.getElem?_map, List.getElem?_map]
  rcases Nat.lt_or_ge i l.length with h | h
  · rw [List.getElem?_range h, List.getElem?_eq_getElem h]
    simp [List.getD_eq_getElem?_getD, List.getElem?_eq_getElem h]
  · rw [List.getElem?_eq_none (by simpa using h), List.getElem?_eq_none h]
    rfl
theorem getD_of {α β : Type} {l : List α} {g : α → β} {d : β} {i : Nat} {x : α} (h : l[i]? = some x) : (l.map g).getD i d = g x := by
  rw [List.getD_eq_getElem?_getD, List.getElem?_map, h]
  rfl
theorem et_yes {σ : L2.St} {H : Hp} : EvT tYes σ H true := fun H1 _ _ q => q H1 (Ex.refl H1)
section
variable {K : PySem.W.Frag} {σ : L2.St} {H : Hp} {ta tb te : TE}
theorem map_inv {α : Type} {l : List α} {f : α → V} {i : Nat} {v : V} (h : (l.map f)[i]? = some v) : ∃ x, l[i]? = some x ∧ v = f x := by
  rw [List.getElem?_map] at h
  cases e : l[i]? with
  | none => rw [e] at h; cases h
  | some a => rw [e] at h; exact ⟨a, rfl, (Option.some.inj h).symm⟩
/-- [e for x in l], l a list -/
theorem el_mapL {α : Type} {l : List α} {f g : α → V} {tl : TE} {j : Nat} {a : Addr} (h : Ev tl σ H (.ref a)) (ha : H a = some (.lst (l.map f))) (hz : l.length ≤ 40000) (he : ∀ x ∈ l, ∀ H1, Ex H H1 → Ev te ((wipe σ [j]).set j (some (f x))) H1 (g x)) :
    EvL (tLc (iList K tl) (gName j) tYes te [j]) σ H (l.map g) := by
  have := el_lcL (K := K) (σ := σ) (H := H) (tl := tl) (t := tYes) (te := te) (vs := [j]) (j := j) (fun _ => true) (fun i => (l.map g).getD i .non) h (sq_of ha) (by rw [List.length_map]; exact hz) (fun v => wipe1 _ j v) (fun _ _ _ _ _ => et_yes) fun i v H1 e1 hv _ => by
    obtain ⟨x, hx, rfl⟩ := map_inv hv
    rw [getD_of hx]
    exact he x (List.mem_of_getElem? hx) H1 e1
  rw [given_true, List.length_map, range_mapD] at this
  exact this
/-- … a new list -/
theorem el_mapN {α : Type} {l : List α} {f g : α → V} {tl : TE} {j : Nat} (h : EvL tl σ H (l.map f)) (hz : l.length ≤ 40000) (he : ∀ x ∈ l, ∀ H1, Ex H H1 → Ev te ((wipe σ [j]).set j (some (f x))) H1 (g x)) :
    EvL (tLc (iList K tl) (gName j) tYes te [j]) σ H (l.map g) := by
  have := el_lcNL (K := K) (σ := σ) (H := H) (tl := tl) (t := tYes) (te := te) (vs := [j]) (j := j) (fun _ => true) (fun i => (l.map g).getD i .non) h (by rw [List.length_map]; exact hz) (fun v => wipe1 _ j v) (fun _ _ _ _ _ => et_yes) fun i v H1 e1 hv _ => by
    obtain ⟨x, hx, rfl⟩ := map_inv hv
    rw [getD_of hx]
    exact he x (List.mem_of_getElem? hx) H1 e1
  rw [given_true, List.length_map, range_mapD] at this
  exact this
/-- … a tuple -/
theorem el_mapT {α : Type} {l : List α} {f g : α → V} {tl : TE} {j : Nat} {a : Addr} (h : Ev tl σ H (.ref a)) (ha : H a = some (.tup (l.map f))) (hz : l.length ≤ 40000) (he : ∀ x ∈ l, ∀ H1, Ex H H1 → Ev te ((wipe σ [j]).set j (some (f x))) H1 (g x)) :
    EvL (tLc (iTup K tl) (gName j) tYes te [j]) σ H (l.map g) := fun H0 e Q q => h H0 e _ fun H1 e1 => ⟨a, rfl, ⟨_, st_of ((Ex.trans e e1) _ _ ha)⟩, fun Dl hD => by
  refine lc_tup (K := K) (a := a) (xs := l.map f) (Cw H1 (fun _ => true) (fun i => (l.map g).getD i .non) Dl) ⟨hD, Ex.new hD, upd_same⟩ (fun i H' _ p => st_of (Ex.trans (Ex.trans e e1) p.2.1 _ _ ha)) (fun i v H' hv p => ⟨wipe1 _ j v, ?_⟩) (fun H' p => ?_)
  · obtain ⟨x, hx, rfl⟩ := map_inv hv
    refine cw_turn p (by have := (List.getElem?_eq_some_iff.mp hx).1; omega) et_yes fun _ => ?_
    rw [getD_of hx]
    exact he x (List.mem_of_getElem? hx) H1 (Ex.trans e e1)
  · have p3 := p.2.2
    rw [given_true, List.length_map, range_mapD] at p3
    exact q Dl H' (fresh_back e1 p.1) (Ex.trans e1 p.2.1) p3⟩
/-- [e for k in range(n)] -/
theorem el_mapR {ta : TA} {j : Nat} {n : Nat} {g : Nat → V} (h : EvA ta σ H [.int (n : Int)]) (hn : n ≤ 40000) (he : ∀ k < n, ∀ H1, Ex H H1 → Ev te ((wipe σ [j]).set j (some (.int (k : Nat)))) H1 (g k)) :
    EvL (tLc (iRng1 ta) (gName j) tYes te [j]) σ H ((List.range n).map g) := by
  have := el_lcR1 (σ := σ) (H := H) (ta := ta) (t := tYes) (te := te) (vs := [j]) (j := j) (n := (n : Int)) (fun _ => true) g h ⟨by omega, by omega⟩ (fun v => wipe1 _ j v) (fun _ _ _ _ => et_yes) fun i H1 e1 hi _ => he i (by omega) H1 e1
  rw [given_true] at this
  exact this
end
theorem strs_flat1 (l : List Str) : (l.map V.str).all flatV = true := by
  rw [List.all_eq_true]
  intro x hx
  obtain ⟨n, _, rfl⟩ := List.mem_map.mp hx
  rfl
theorem strs_in1 (l : List Str) (x : Str) : inV (.str x) (l.map V.str) = decide (x ∈ l) := by
  unfold inV
  induction l with
  | nil => rfl
  | cons a r ih =>
    rw [List.map_cons, List.any_cons, ih]
    show ((a == x) || decide (x ∈ r)) = decide (x ∈ a :: r)
    by_cases h : a = x
    · subst h; simp
    · have h3 : ¬ x = a := fun z => h z.symm
      simp [h, h3]
theorem rv_ixQ1 {K : PySem.W.Frag} {H : Hp} {p : Addr} {xs : List V} {n : Nat} {v : V} (h : SeqAt H p xs) (hx : xs[n]? = some v) : RV (rIx K) (.ref p) (.int (n : Nat)) H v := fun H1 e Q q => by
  rcases h with h | h
  · exact .inl ⟨p, xs, (n : Int), v, rfl, rfl, SqL.of (e _ _ h), atI_nat hx, q H1 (Ex.refl _)⟩
  · exact .inr (.inl ⟨p, xs, (n : Int), v, rfl, rfl, SqT.of (e _ _ h), atI_nat hx, q H1 (Ex.refl _)⟩)
theorem map_inv1 {α : Type} {f : α → V} {l : List α} {i : Nat} {v : V} (h : (l.map f)[i]? = some v) : ∃ x, l[i]? = some x ∧ v = f x := by
  rw [List.getElem?_map] at h
  cases hi : l[i]? with
  | none => rw [hi] at h; cases h
  | some x => rw [hi] at h; cases h; exact ⟨x, rfl, rfl⟩
theorem sIx1 (x : V) (xs : List V) : HT.sIx (x :: xs).length 0 (some 1) = 1 := by
  show _ = _
  unfold HT.sIx
  simp
theorem cut1 (x : V) (xs : List V) : cutV (x :: xs) (some 1) none = xs := by
  unfold cutV
  have h1 : HT.sIx (x :: xs).length 0 (some 1) = 1 := by
    show _ = _
    unfold HT.sIx
    simp
  have h2 : HT.sIx (x :: xs).length (x :: xs).length none = (x :: xs).length := rfl
  rw [h1, h2]
  simp
theorem ev_lenQ1 {K : PySem.W.Frag} {σ : L2.St} {H : Hp} {te : TE} {p : Addr} {xs : List V} (ha : Ev te σ H (.ref p)) (h : SeqAt H p xs) : Ev (tCB (rLenS K) (tCons te tNil)) σ H (.int (xs.length : Int)) := h.elim (fun h => ev_lenL ha h) fun h => ev_lenT ha h
theorem seq_same {H H' : Hp} {p : Addr} {xs : List V} (h : SeqAt H p xs) (e : Same H H') : SeqAt H' p xs := h.elim (fun h => .inl (e _ _ h)) fun h => .inr (e _ _ h)
theorem for_enumA1 {K : PySem.W.Frag} {a : Addr} {xs : List V} {g : TG} {tb : TS} {D : Ends} {σ : St} {H : Hp} (hq : SeqAt H a xs) (Pv : Nat → St → Hp → Prop) (h0 : Pv 0 σ H) (hG : ∀ i σ' H', i ≤ xs.length → Pv i σ' H' → ∀ o, H a = some o → H' a = some o)
    (hs : ∀ i x σ H H', i < xs.length → Pv i σ H → YPair (fun i => some (.int (i : Nat))) (fun i => xs[i]?) i H x H' → g x σ H' fun σ2 H2 => tb { D with nx := Pv (i + 1), ct := Pv (i + 1), bk := D.nx } σ2 H2) (hd : ∀ σ H, Pv xs.length σ H → D.nx σ H) :
    ∃ a' xs', [V.ref a] = [V.ref a'] ∧ ((SqL K H a' xs' ∧ ∃ W : Nat → Nat → St → Hp → Prop, (∃ m, W 0 m σ H) ∧ ∀ i m σ H, W i m σ H →
      ((Ite K a').stop i H ∧ D.nx σ H) ∨ ((Ite K a').go i H ∧ ∃ N : St → Hp → Prop, (∀ σ' H', N σ' H' → ∃ m', m' < m ∧ W (i + 1) m' σ' H') ∧ ∀ x H', (Ite K a').yld i H x H' → g x σ H' fun σ2 H2 => tb { D with nx := N, ct := N, bk := D.nx } σ2 H2)) ∨
      (SqT K H a' xs' ∧ ∃ W : Nat → Nat → St → Hp → Prop, (∃ m, W 0 m σ H) ∧ ∀ i m σ H, W i m σ H →
      ((IteT K a').stop i H ∧ D.nx σ H) ∨ ((IteT K a').go i H ∧ ∃ N : St → Hp → Prop, (∀ σ' H', N σ' H' → ∃ m', m' < m ∧ W (i + 1) m' σ' H') ∧ ∀ x H', (IteT K a').yld i H x H' → g x σ H' fun σ2 H2 => tb { D with nx := N, ct := N, bk := D.nx } σ2 H2))) := by
  rcases hq with hq | hq
  · exact ⟨a, xs, rfl, .inl ⟨SqL.of hq, for_it walk_enum Pv h0 (fun i σ' H' hi p => SqL.of (hG i σ' H' hi p _ hq)) hs hd⟩⟩
  · exact ⟨a, xs, rfl, .inr ⟨SqT.of hq, for_it walk_enumT Pv h0 (fun i σ' H' hi p => SqT.of (hG i σ' H' hi p _ hq)) hs hd⟩⟩
theorem sq_go1 {te : TE} {g : TG} {tz : TS} {D : Ends} {σ : L2.St} {H : Hp} (h : te σ H fun v H1 => g v σ H1 (tz D)) : tSeq (tAsg te g) tz D σ H := h
theorem ev_notN1 {σ : L2.St} {H : Hp} {te : TE} (h : Ev te σ H .non) : Ev (tOp rNotN te (tC .non)) σ H (.bl false) := fun H1 e1 Q q => h H1 e1 _ fun H2 e2 => ⟨rfl, q H2 e2⟩
def rTupOf (K : PySem.W.Frag) : List V → Hp → VK → Prop := fun xs H Q => ∃ p ys, xs = [.ref p] ∧ ((SqL K H p ys ∧ ∀ l, H l = none → Q (.ref l) (upd H l (.tup ys))) ∨ (SqT K H p ys ∧ Q (.ref p) H))
section
variable {K : PySem.W.Frag} {σ : L2.St} {H : Hp} {te tl : TE}
theorem el_mapS {α : Type} {l : List α} {f g : α → V} {j : Nat} {a : Addr} (h : Ev tl σ H (.ref a)) (ha : SeqAt H a (l.map f)) (hz : l.length ≤ 40000) (he : ∀ x ∈ l, ∀ H1, Ex H H1 → Ev te ((wipe σ [j]).set j (some (f x))) H1 (g x)) :
    EvL (tLc (fun σ H R => iList K tl σ H R ∨ iTup K tl σ H R) (gName j) tYes te [j]) σ H (l.map g) := fun H1 e Q q => ha.elim (fun x => .inl (el_mapL (K := K) h x hz he H1 e Q q)) fun x => .inr (el_mapT (K := K) h x hz he H1 e Q q)
end
theorem atI_n1 {xs : List V} {n : Nat} {v : V} (h : xs[n]? = some v) : atI xs (n : Nat) = some v := by
  have hn := (List.getElem?_eq_some_iff.mp h).1
  unfold atI
  rw [ixN_nat hn]
  exact h
theorem StAt.neL {H : Hp} {st c : Addr} (S : StAt H st c) : ∃ xs, H st = some (.lst xs) := let ⟨⟨_, _, _, h⟩, _, _⟩ := S; ⟨_, h⟩
def KpS (st D : Addr) (H H' : Hp) : Prop := ∀ b o, H b = some o → (b = st ∨ b = D → ∀ xs, o ≠ .lst xs) → H' b = some o
theorem kps_of {st D : Addr} {H H' : Hp} {xs : List V} (e : Kp st H H') (h : H st = some (.lst xs)) : KpS st D H H' := fun b o hb hn => e b o (fun z => by
  subst z
  rw [h] at hb
  exact hn (.inl rfl) _ (Option.some.inj hb).symm) hb
theorem kps_mut {st D : Addr} {H : Hp} {xs : List V} {o' : HO} (h : H D = some (.lst xs)) : KpS st D H (upd H D o') := fun b o hb hn => by
  rw [upd_ne]
  · exact hb
  · intro z
    subst z
    rw [h] at hb
    exact hn (.inr rfl) _ (Option.some.inj hb).symm
theorem KpS.lst {st D : Addr} {H H' : Hp} {l : Addr} {o : HO} (e : KpS st D H H') (h1 : l ≠ st) (h2 : l ≠ D) (h : H l = some o) : H' l = some o := e _ _ h fun z => by
  rcases z with z | z
  · exact absurd z h1
  · exact absurd z h2
theorem lc_drawR {st c D : Addr} {σ : L2.St} {te : TE} {j n : Nat} {H1 : Hp} {Qd : Hp → Prop} (Pr : Nat → V → Hp → Prop) (S0 : StAt H1 st c) (nD : H1 D = none) (hn : n ≤ 1000) (stab : ∀ i v H H', Pr i v H → KpS st D H H' → Pr i v H')
    (turn : ∀ i H', i < n → StAt H' st c → Kp st H1 H' → (∃ acc, H' D = some (.lst acc)) → ∀ Q : VK, (∀ v H2, Pr i v H2 → StAt H2 st c → Kp st H' H2 → Q v H2) → te ((wipe σ [j]).set j (some (.int (i : Nat)))) H' Q)
    (done : ∀ vs H', vs.length = n → (∀ i v, vs[i]? = some v → Pr i v H') → StAt H' st c → Kp st H1 H' → H' D = some (.lst vs) → Qd H') :
    ∃ W : Nat → Nat → Hp → Prop, (∃ m, W 0 m (upd H1 D (.lst []))) ∧ ∀ i m H, W i m H → ((Itr 0 n).stop i H ∧ Qd H) ∨ ((Itr 0 n).go i H ∧ ∃ Nx : Hp → Prop, (∀ H', Nx H' → ∃ m', m' < m ∧ W (i + 1) m' H') ∧ ∀ x H', (Itr 0 n).yld i H x H' → gName j x (wipe σ [j]) H' fun σ2 H2 => wipe σ2 [j] = wipe σ [j] ∧ tYes σ2 H2 fun b H3 =>
      if b = true then te σ2 H3 fun y H4 => ∃ acc, H4 D = some (.lst acc) ∧ acc.length < sizeLine ∧ Nx (upd H4 D (.lst (acc ++ [y]))) else Nx H3) := by
  have hDs := (S0.of_new nD).1
  have hDc := (S0.of_new nD).2
  refine lc_range (lo := 0) (fun i H' => StAt H' st c ∧ Kp st H1 H' ∧ ∃ vs : List V, vs.length = i ∧ H' D = some (.lst vs) ∧ ∀ k v, vs[k]? = some v → Pr k v H') ⟨S0.same (Same.upd' nD), Kp.of (Same.upd' nD), [], rfl, upd_same, fun k v h => by simp at h⟩ ?_ ?_
  · rintro i H' hi ⟨S', e, vs, hl, hD, hv⟩
    have z : (0 : Int) + (i : Int) = (i : Int) := by omega
    rw [z]
    refine ⟨wipe1 σ j _, ?_⟩
    obtain ⟨xs1, hst1⟩ := S'.neL
    refine turn i H' hi S' e ⟨_, hD⟩ _ fun v H2 hp S2 e2 => ?_
    have hD2 := e2 _ _ hDs hD
    refine ⟨vs, hD2, small1000 (by omega), S2.mut hDs hDc, Kp.mut (e.trans e2) nD, vs ++ [v], by simp [hl], upd_same, fun k x hx => ?_⟩
    have km : KpS st D H2 (upd H2 D (.lst (vs ++ [v]))) := kps_mut hD2
    rcases Nat.lt_or_ge k vs.length with hk | hk
    · rw [List.getElem?_append_left hk] at hx
      exact stab _ _ _ _ (stab _ _ _ _ (hv k x hx) (kps_of e2 hst1)) km
    · rw [List.getElem?_append_right hk] at hx
      cases q : k - vs.length with
      | zero =>
        rw [q] at hx
        cases hx
        have : k = i := by omega
        rw [this]
        exact stab _ _ _ _ hp km
      | succ m => rw [q] at hx; simp at hx
  · rintro H' ⟨S', e, vs, hl, hD, hv⟩
    exact done vs H' hl hv S' e hD
theorem lc_drawL {K : PySem.W.Frag} {st c D a : Addr} {xs : List V} {σ : L2.St} {te : TE} {j : Nat} {H1 : Hp} {Qd : Hp → Prop} (Pr : Nat → V → Hp → Prop) (S0 : StAt H1 st c) (nD : H1 D = none) (has : a ≠ st) (ha : H1 a = some (.lst xs)) (hn : xs.length ≤ 1000) (stab : ∀ i v H H', Pr i v H → KpS st D H H' → Pr i v H')
    (turn : ∀ i x H', xs[i]? = some x → StAt H' st c → Kp st H1 H' → (∃ acc, H' D = some (.lst acc)) → ∀ Q : VK, (∀ v H2, Pr i v H2 → StAt H2 st c → Kp st H' H2 → Q v H2) → te ((wipe σ [j]).set j (some x)) H' Q)
    (done : ∀ vs H', vs.length = xs.length → (∀ i v, vs[i]? = some v → Pr i v H') → StAt H' st c → Kp st H1 H' → H' D = some (.lst vs) → Qd H') :
    ∃ W : Nat → Nat → Hp → Prop, (∃ m, W 0 m (upd H1 D (.lst []))) ∧ ∀ i m H, W i m H → ((Itl K a).stop i H ∧ Qd H) ∨ ((Itl K a).go i H ∧ ∃ Nx : Hp → Prop, (∀ H', Nx H' → ∃ m', m' < m ∧ W (i + 1) m' H') ∧ ∀ x H', (Itl K a).yld i H x H' → gName j x (wipe σ [j]) H' fun σ2 H2 => wipe σ2 [j] = wipe σ [j] ∧ tYes σ2 H2 fun b H3 =>
      if b = true then te σ2 H3 fun y H4 => ∃ acc, H4 D = some (.lst acc) ∧ acc.length < sizeLine ∧ Nx (upd H4 D (.lst (acc ++ [y]))) else Nx H3) := by
  have hDs := (S0.of_new nD).1
  have hDc := (S0.of_new nD).2
  refine lc_list (K := K) (a := a) (xs := xs) (fun i H' => StAt H' st c ∧ Kp st H1 H' ∧ ∃ vs : List V, vs.length = i ∧ H' D = some (.lst vs) ∧ ∀ k v, vs[k]? = some v → Pr k v H') ⟨S0.same (Same.upd' nD), Kp.of (Same.upd' nD), [], rfl, upd_same, fun k v h => by simp at h⟩ (fun i H' _ p => SqL.of (p.2.1 _ _ has ha)) ?_ ?_
  · rintro i x H' hx ⟨S', e, vs, hl, hD, hv⟩
    have hi := (List.getElem?_eq_some_iff.mp hx).1
    refine ⟨wipe1 σ j _, ?_⟩
    obtain ⟨xs1, hst1⟩ := S'.neL
    refine turn i x H' hx S' e ⟨_, hD⟩ _ fun v H2 hp S2 e2 => ?_
    have hD2 := e2 _ _ hDs hD
    refine ⟨vs, hD2, small1000 (by omega), S2.mut hDs hDc, Kp.mut (e.trans e2) nD, vs ++ [v], by simp [hl], upd_same, fun k y hy => ?_⟩
    have km : KpS st D H2 (upd H2 D (.lst (vs ++ [v]))) := kps_mut hD2
    rcases Nat.lt_or_ge k vs.length with hk | hk
    · rw [List.getElem?_append_left hk] at hy
      exact stab _ _ _ _ (stab _ _ _ _ (hv k y hy) (kps_of e2 hst1)) km
    · rw [List.getElem?_append_right hk] at hy
      cases q : k - vs.length with
      | zero =>
        rw [q] at hy
        cases hy
        have : k = i := by omega
        rw [this]
        exact stab _ _ _ _ hp km
      | succ m => rw [q] at hy; simp at hy
  · rintro H' ⟨S', e, vs, hl, hD, hv⟩
    exact done vs H' hl hv S' e hD

theorem kp_back {st c t : Addr} {H H' : Hp} (S : StAt H' st c) (k : Kp st H H') (n : H' t = none) : H t = none := by
  cases hb : H t with
  | none => rfl
  | some o =>
    by_cases hbs : t = st
    · subst hbs
      obtain ⟨ys, hys⟩ := S.neL
      rw [hys] at n
      cases n
    · rw [k _ _ hbs hb] at n
      cases n
theorem pss_no1 {X : Cx} {ss : List Stmt} : PSs X ss (fun _ _ _ => False) := ⟨fun _ _ _ _ _ _ h => h.elim⟩
theorem tyx_str {K : PySem.W.Frag} {H : Hp} {z : Str} : TyX K H (.str z) (.type "str") := .base (.str z)
section
variable {K : PySem.W.Frag} {σ : L2.St} {H : Hp} {te : TE}
theorem ev_isSeqN {z : Str} (h : Ev te σ H (.str z)) : Ev (tCB (rIsiT K) (tCons te (tCons (tTup (tCons (tC (.ty "list")) (tCons (tC (.ty "tuple")) tNil))) tNil))) σ H (.bl false) := fun H1 e1 Q q => h H1 e1 _ fun H2 e2 =>
  ⟨by show 2 ≤ sizeLine; decide, fun p np => ⟨_, _, _, _, _, false, rfl, upd_same, .cons (.ty _) (.cons (.ty _) .nil), tyx_str, kitAny_cons (b := false) (kit_ty (by decide +kernel)) (fun _ => kitAny_cons (b := false) (kit_ty (by decide +kernel)) (fun _ => kitAny_nil) (fun z => nomatch z)) (fun z => nomatch z), q _ (Ex.trans e2 (Ex.new np))⟩⟩
theorem ev_isSeqY {a : Addr} {xs : List V} (h : Ev te σ H (.ref a)) (hq : SeqAt H a xs) : Ev (tCB (rIsiT K) (tCons te (tCons (tTup (tCons (tC (.ty "list")) (tCons (tC (.ty "tuple")) tNil))) tNil))) σ H (.bl true) := fun H1 e1 Q q => h H1 e1 _ fun H2 e2 =>
  ⟨by show 2 ≤ sizeLine; decide, fun p np => by
    rcases seq_same hq (Ex.trans e1 e2) with hq | hq
    · exact ⟨_, _, _, _, _, true, rfl, upd_same, .cons (.ty _) (.cons (.ty _) .nil), .base (.lst (by rw [upd_ne (ne_of_none hq np)]; exact hq)), kitAny_cons (b := true) (kit_ty (by decide +kernel)) (fun z => nomatch z) (fun _ => rfl), q _ (Ex.trans e2 (Ex.new np))⟩
    · exact ⟨_, _, _, _, _, true, rfl, upd_same, .cons (.ty _) (.cons (.ty _) .nil), .base (.tup (by rw [upd_ne (ne_of_none hq np)]; exact hq)), kitAny_cons (b := false) (kit_ty (by decide +kernel)) (fun _ => kitAny_cons (b := true) (kit_ty (by decide +kernel)) (fun z => nomatch z) (fun _ => rfl)) (fun z => nomatch z), q _ (Ex.trans e2 (Ex.new np))⟩⟩
end
section
variable {P : Program} {w : World} {K : PySem.W.Frag} {mg : Str → Option Value} {base : Heap} {f : Addr} {fd : FuncData}
def spHanded : Sp := fun vs H Q _ => ∃ (st c a : Addr) (xs : List V), vs = [.ref st, .ref a] ∧ StAt H st c ∧ a ≠ st ∧ H a = some (.lst xs) ∧ ∀ p H', H p = none → StAt H' st c → Kp st H H' → SeqAt H' p xs → Q (.ref p) H'
end
/-! ### lists that are filtered -/
theorem given_filA {α : Type} (l : List α) (f : α → V) (b : α → Bool) : ∀ n, n ≤ l.length → given n (fun i => (l.map b).getD i false) (fun i => (l.map f).getD i .non) = ((l.take n).filter b).map f
  | 0, _ => by simp [given]
  | n + 1, h => by
    have hn : l[n]? = some l[n] := List.getElem?_eq_getElem h
    have ih := given_filA l f b n (by omega)
    have eb : (l.map b).getD n false = b l[n] := getD_of hn
    have ev : (l.map f).getD n .non = f l[n] := getD_of hn
    rw [List.take_succ, hn, List.filter_append, List.map_append]
    cases hb : b l[n] with
    | true =>
      rw [given_yes (by rw [eb, hb]), ih, ev]
      simp [hb]
    | false =>
      rw [given_no (by rw [eb, hb]), ih]
      simp [hb]
theorem given_fil {α : Type} (l : List α) (f : α → V) (b : α → Bool) : given l.length (fun i => (l.map b).getD i false) (fun i => (l.map f).getD i .non) = (l.filter b).map f := by
  rw [given_filA l f b _ (Nat.le_refl _), List.take_length]
/-- a tuple is told, new or not -/
def EvUr (te : TE) (σ : L2.St) (H : Hp) (xs : List V) : Prop := ∀ H1, Ex H H1 → ∀ Q : VK, (∀ p H2, Ex H1 H2 → H2 p = some (.tup xs) → Q (.ref p) H2) → te σ H1 Q
theorem EvU.r' {te : TE} {σ : L2.St} {H : Hp} {xs : List V} (h : EvU te σ H xs) : EvUr te σ H xs := fun H1 e Q q => h H1 e Q fun p H2 _ e2 hp => q p H2 e2 hp
theorem eur_ev {te : TE} {σ : L2.St} {H : Hp} {xs : List V} {a : Addr} (h : Ev te σ H (.ref a)) (ha : H a = some (.tup xs)) : EvUr te σ H xs := fun H1 e Q q => h H1 e Q fun H2 e2 => q a H2 e2 (Ex.trans e e2 _ _ ha)
section
variable {K : PySem.W.Frag} {σ : L2.St} {H : Hp} {tl te : TE} {tt : TT}
theorem el_filU {α : Type} {l : List α} {f g : α → V} {b : α → Bool} {j : Nat} (h : EvUr tl σ H (l.map f)) (hz : l.length ≤ 40000) (ht : ∀ x ∈ l, ∀ H1, Ex H H1 → EvT tt ((wipe σ [j]).set j (some (f x))) H1 (b x)) (he : ∀ x ∈ l, ∀ H1, Ex H H1 → Ev te ((wipe σ [j]).set j (some (f x))) H1 (g x)) :
    EvL (tLc (iTup K tl) (gName j) tt te [j]) σ H ((l.filter b).map g) := fun H0 e Q q => h H0 e _ fun a H1 e1 ha => ⟨a, rfl, ⟨_, st_of ha⟩, fun Dl hD => by
  refine lc_tup (K := K) (a := a) (xs := l.map f) (Cw H1 (fun i => (l.map b).getD i false) (fun i => (l.map g).getD i .non) Dl) ⟨hD, Ex.new hD, upd_same⟩ (fun i H' _ p => st_of (p.2.1 _ _ ha)) (fun i v H' hv p => ⟨wipe1 _ j v, ?_⟩) (fun H' p => ?_)
  · obtain ⟨x, hx, rfl⟩ := map_inv hv
    have hi := (List.getElem?_eq_some_iff.mp hx).1
    refine cw_turn p (by omega) ?_ fun _ => ?_
    · have eb : (l.map b).getD i false = b x := getD_of hx
      show EvT tt _ _ ((l.map b).getD i false)
      rw [eb]
      exact ht x (List.mem_of_getElem? hx) H1 (Ex.trans e e1)
    · rw [getD_of hx]
      exact he x (List.mem_of_getElem? hx) H1 (Ex.trans e e1)
  · have p3 := p.2.2
    rw [List.length_map, given_fil] at p3
    exact q Dl H' (fresh_back e1 p.1) (Ex.trans e1 p.2.1) p3⟩
theorem el_filL1 {α : Type} {l : List α} {f g : α → V} {b : α → Bool} {j : Nat} {a : Addr} (h : Ev tl σ H (.ref a)) (ha : H a = some (.lst (l.map f))) (hz : l.length ≤ 40000) (ht : ∀ x ∈ l, ∀ H1, Ex H H1 → EvT tt ((wipe σ [j]).set j (some (f x))) H1 (b x)) (he : ∀ x ∈ l, ∀ H1, Ex H H1 → Ev te ((wipe σ [j]).set j (some (f x))) H1 (g x)) :
    EvL (tLc (iList K tl) (gName j) tt te [j]) σ H ((l.filter b).map g) := fun H0 e Q q => h H0 e _ fun H1 e1 => ⟨a, rfl, ⟨_, sq_of (Ex.trans e e1 _ _ ha)⟩, fun Dl hD => by
  refine lc_list (K := K) (a := a) (xs := l.map f) (Cw H1 (fun i => (l.map b).getD i false) (fun i => (l.map g).getD i .non) Dl) ⟨hD, Ex.new hD, upd_same⟩ (fun i H' _ p => sq_of (Ex.trans (Ex.trans e e1) p.2.1 _ _ ha)) (fun i v H' hv p => ⟨wipe1 _ j v, ?_⟩) (fun H' p => ?_)
  · obtain ⟨x, hx, rfl⟩ := map_inv hv
    have hi := (List.getElem?_eq_some_iff.mp hx).1
    refine cw_turn p (by omega) ?_ fun _ => ?_
    · have eb : (l.map b).getD i false = b x := getD_of hx
      show EvT tt _ _ ((l.map b).getD i false)
      rw [eb]
      exact ht x (List.mem_of_getElem? hx) H1 (Ex.trans e e1)
    · rw [getD_of hx]
      exact he x (List.mem_of_getElem? hx) H1 (Ex.trans e e1)
  · have p3 := p.2.2
    rw [List.length_map, given_fil] at p3
    exact q Dl H' (fresh_back e1 p.1) (Ex.trans e1 p.2.1) p3⟩
end
/-! ### cuts of lists -/
theorem cutV_from (xs : List V) (k : Nat) : cutV xs (some (k : Int)) none = xs.drop k := by
  unfold cutV
  rw [HT.sIx_nat, HT.sIx_none]
  rcases Nat.le_total k xs.length with h | h
  · rw [Nat.min_eq_left h]
    exact List.take_of_length_le (by rw [List.length_drop]; omega)
  · rw [Nat.min_eq_right h, List.drop_of_length_le (Nat.le_refl _), List.drop_of_length_le h]
    simp
theorem cutV_to (xs : List V) (k : Nat) : cutV xs none (some (k : Int)) = xs.take k := by
  unfold cutV
  rw [HT.sIx_nat, HT.sIx_none, List.drop_zero, Nat.sub_zero]
  rcases Nat.le_total k xs.length with h | h
  · rw [Nat.min_eq_left h]
  · rw [Nat.min_eq_right h, List.take_of_length_le (Nat.le_refl _), List.take_of_length_le h]
section
variable {K : PySem.W.Frag} {σ : L2.St} {H : Hp} {ta tb : TE}
theorem el_cat {xs ys : List V} (ha : EvL ta σ H xs) (hb : EvL tb σ H ys) (hl : xs.length + ys.length ≤ 100000) : EvL (tOp rCat ta tb) σ H (xs ++ ys) := fun H1 e Q q => ha H1 e _ fun p H2 np e2 hp => hb H2 (Ex.trans e e2) _ fun p' H3 np' e3 hp' =>
  ⟨p, p', xs, ys, rfl, rfl, e3 _ _ hp, hp', sz_of hl, fun r nr => q r _ (fresh_back (Ex.trans e2 e3) nr) ((e2.trans e3).trans (Ex.new nr)) upd_same⟩
theorem el_catV {p : Addr} {xs ys : List V} (ha : Ev ta σ H (.ref p)) (hp : H p = some (.lst xs)) (hb : EvL tb σ H ys) (hl : xs.length + ys.length ≤ 100000) : EvL (tOp rCat ta tb) σ H (xs ++ ys) := fun H1 e Q q => ha H1 e _ fun H2 e2 => hb H2 (Ex.trans e e2) _ fun p' H3 np' e3 hp' =>
  ⟨p, p', xs, ys, rfl, rfl, Ex.trans e (Ex.trans e2 e3) _ _ hp, hp', sz_of hl, fun r nr => q r _ (fresh_back (Ex.trans e2 e3) nr) ((e2.trans e3).trans (Ex.new nr)) upd_same⟩
theorem el_rev {p : Addr} {xs : List V} (ha : Ev ta σ H (.ref p)) (hp : H p = some (.lst xs)) : EvL (tRevL K ta) σ H xs.reverse := fun H1 e Q q => ha H1 e _ fun H2 e2 => ⟨p, xs, rfl, sq_of (Ex.trans e e2 _ _ hp), fun r nr => q r _ (fresh_back e2 nr) (e2.trans (Ex.new nr)) upd_same⟩
end
theorem KpS.refl (st D : Addr) (H : Hp) : KpS st D H H := fun _ _ h _ => h
theorem KpS.trans {st D : Addr} {H H1 H2 : Hp} (a : KpS st D H H1) (b : KpS st D H1 H2) : KpS st D H H2 := fun c o h n => b c o (a c o h n) n
theorem KpS.of {st D : Addr} {H H' : Hp} (e : Same H H') : KpS st D H H' := fun b o h _ => e b o h
theorem KpS.back {st D : Addr} {H H' : Hp} (e : KpS st D H H') (n : H D = none) : Kp st H H' := fun b o hb h => e b o h (fun q => by
  rcases q with q | q
  · exact absurd q hb
  · subst q
    rw [n] at h
    cases h)
section
variable {K : PySem.W.Frag} {σ : L2.St} {H : Hp} {te ta tb : TE}
theorem eu_slT {tl th : TO} {a : Addr} {xs : List V} {lo hi : Option Int} (h : Ev te σ H (.ref a)) (h1 : EvO tl σ H lo) (h2 : EvO th σ H hi) (hs : H a = some (.tup xs)) (hw : ¬ (HT.sIx xs.length 0 lo = 0 ∧ HT.sIx xs.length xs.length hi = xs.length)) : EvU (tSl (rSlT K) te tl th) σ H (cutV xs lo hi) := fun H1 e _ q =>
  h H1 e _ fun H2 e2 => h1 H2 (Ex.trans e e2) _ fun H3 e3 => h2 H3 (Ex.trans e (Ex.trans e2 e3)) _ fun H4 e4 => ⟨a, xs, rfl, st_of (Ex.trans e (Ex.trans e2 (Ex.trans e3 e4)) _ _ hs), hw, fun p np => q p _ (fresh_back (Ex.trans e2 (Ex.trans e3 e4)) np) (Ex.trans (Ex.trans e2 (Ex.trans e3 e4)) (Ex.new np)) upd_same⟩
theorem et_strne {x y : Str} {ta tb : TE} (h1 : Ev ta σ H (.str x)) (h2 : Ev tb σ H (.str y)) : EvT (tTest (tOp rNe ta tb)) σ H (!decide (x = y)) := by
  have e : (V.str x = V.str y) = (x = y) := propext ⟨V.str.inj, congrArg _⟩
  refine et_is (et_test (ev_op h1 h2 (rv_ne rfl))) ?_
  simp only [e]
end
end Lm

namespace Lm
open PySem L2 Evl RZ

structure ErrI (P : Program) (w : World) (K : PySem.W.Frag) (mg : Str → Option Value) (base : Heap) (C fI : Addr) (fdI : FuncData) (fn : Str) : Prop where
  ok : FnOk P w K mg base CX0 1 fI fdI ["self", fn] (spErrI C fn)
  bd : Binds K fdI ["self", fn] []
structure ErrI2 (P : Program) (w : World) (K : PySem.W.Frag) (mg : Str → Option Value) (base : Heap) (C fI : Addr) (fdI : FuncData) (f1 f2 : Str) : Prop where
  ok : FnOk P w K mg base CX0 1 fI fdI ["self", f1, f2] (spErrI2 C f1 f2)
  bd : Binds K fdI ["self", f1, f2] []
theorem ErrF.v {P : Program} {w : World} {K : PySem.W.Frag} {mg : Str → Option Value} {base : Heap} {x fn : Str} {C fI : Addr} {fd : FuncData} (T : ErrF K mg x C fI fn) (I : ErrI P w K mg base C fI fd fn) : ErrV P w K mg base 1 x C fI fd ["self", fn] (spErrI C fn) := ⟨T.T, T.ini, T.ty, I.ok, I.bd, T.g⟩
theorem ErrF2.v {P : Program} {w : World} {K : PySem.W.Frag} {mg : Str → Option Value} {base : Heap} {x f1 f2 : Str} {C fI : Addr} {fd : FuncData} (T : ErrF2 K mg x C fI f1 f2) (I : ErrI2 P w K mg base C fI fd f1 f2) : ErrV P w K mg base 1 x C fI fd ["self", f1, f2] (spErrI2 C f1 f2) := ⟨T.T, T.ini, T.ty, I.ok, I.bd, T.g⟩
section
variable {P : Program} {w : World} {K : PySem.W.Frag} {mg : Str → Option Value} {base : Heap} {f : Addr} {fd : FuncData}
abbrev s_BadWord_init : Stmt := inClass (top 2) 0
theorem sc_BadWord_init : FnScope ["self", "word"] ["self", "word"] (defScope s_BadWord_init) := ⟨rfl, rfl, rfl, by decide +kernel, rfl, by decide +kernel, by decide +kernel⟩
theorem ok_bad_word {C : Addr} (F : Fun K "__init__" "BadWord.__init__" s_BadWord_init f fd) (T : OexC K C) (hno : PySem.W.findIn K (.ref C) "word" = some none) : FnOk P w K mg base CX0 1 f fd ["self", "word"] (spErrI C "word") := by
  refine F.ok sc_BadWord_init (fun vs H Q E h => ?_) (fun cdv A outer s H vs Q E hr h => ?_)
  · obtain ⟨a, v, rfl, _⟩ := h
    rfl
  · obtain ⟨a, v, rfl, ha, k⟩ := h
    refine ⟨_, (pss_one (ps_ost (pv 0) (pv 1) rfl)), ?_⟩
    exact ⟨_, rfl, _, rfl, a, C, rfl, T, hno, .inl ⟨ha, fun dx ndx hda => k dx ndx hda⟩⟩
abbrev s_BadPassage_init : Stmt := inClass (top 3) 0
theorem sc_BadPassage_init : FnScope ["self", "index"] ["self", "index"] (defScope s_BadPassage_init) := ⟨rfl, rfl, rfl, by decide +kernel, rfl, by decide +kernel, by decide +kernel⟩
theorem ok_bad_passage {C : Addr} (F : Fun K "__init__" "BadPassage.__init__" s_BadPassage_init f fd) (T : OexC K C) (hno : PySem.W.findIn K (.ref C) "index" = some none) : FnOk P w K mg base CX0 1 f fd ["self", "index"] (spErrI C "index") := by
  refine F.ok sc_BadPassage_init (fun vs H Q E h => ?_) (fun cdv A outer s H vs Q E hr h => ?_)
  · obtain ⟨a, v, rfl, _⟩ := h
    rfl
  · obtain ⟨a, v, rfl, ha, k⟩ := h
    refine ⟨_, (pss_one (ps_ost (pv 0) (pv 1) rfl)), ?_⟩
    exact ⟨_, rfl, _, rfl, a, C, rfl, T, hno, .inl ⟨ha, fun dx ndx hda => k dx ndx hda⟩⟩
abbrev s_BadCount_init : Stmt := inClass (top 5) 0
theorem sc_BadCount_init : FnScope ["self", "count"] ["self", "count"] (defScope s_BadCount_init) := ⟨rfl, rfl, rfl, by decide +kernel, rfl, by decide +kernel, by decide +kernel⟩
theorem ok_bad_count {C : Addr} (F : Fun K "__init__" "BadCount.__init__" s_BadCount_init f fd) (T : OexC K C) (hno : PySem.W.findIn K (.ref C) "count" = some none) : FnOk P w K mg base CX0 1 f fd ["self", "count"] (spErrI C "count") := by
  refine F.ok sc_BadCount_init (fun vs H Q E h => ?_) (fun cdv A outer s H vs Q E hr h => ?_)
  · obtain ⟨a, v, rfl, _⟩ := h
    rfl
  · obtain ⟨a, v, rfl, ha, k⟩ := h
    refine ⟨_, (pss_one (ps_ost (pv 0) (pv 1) rfl)), ?_⟩
    exact ⟨_, rfl, _, rfl, a, C, rfl, T, hno, .inl ⟨ha, fun dx ndx hda => k dx ndx hda⟩⟩
abbrev s_BadCut_init : Stmt := inClass (top 6) 0
theorem sc_BadCut_init : FnScope ["self", "number"] ["self", "number"] (defScope s_BadCut_init) := ⟨rfl, rfl, rfl, by decide +kernel, rfl, by decide +kernel, by decide +kernel⟩
theorem ok_bad_cut {C : Addr} (F : Fun K "__init__" "BadCut.__init__" s_BadCut_init f fd) (T : OexC K C) (hno : PySem.W.findIn K (.ref C) "number" = some none) : FnOk P w K mg base CX0 1 f fd ["self", "number"] (spErrI C "number") := by
  refine F.ok sc_BadCut_init (fun vs H Q E h => ?_) (fun cdv A outer s H vs Q E hr h => ?_)
  · obtain ⟨a, v, rfl, _⟩ := h
    rfl
  · obtain ⟨a, v, rfl, ha, k⟩ := h
    refine ⟨_, (pss_one (ps_ost (pv 0) (pv 1) rfl)), ?_⟩
    exact ⟨_, rfl, _, rfl, a, C, rfl, T, hno, .inl ⟨ha, fun dx ndx hda => k dx ndx hda⟩⟩
abbrev s_BadSize_init : Stmt := inClass (top 7) 0
theorem sc_BadSize_init : FnScope ["self", "size"] ["self", "size"] (defScope s_BadSize_init) := ⟨rfl, rfl, rfl, by decide +kernel, rfl, by decide +kernel, by decide +kernel⟩
theorem ok_bad_size {C : Addr} (F : Fun K "__init__" "BadSize.__init__" s_BadSize_init f fd) (T : OexC K C) (hno : PySem.W.findIn K (.ref C) "size" = some none) : FnOk P w K mg base CX0 1 f fd ["self", "size"] (spErrI C "size") := by
  refine F.ok sc_BadSize_init (fun vs H Q E h => ?_) (fun cdv A outer s H vs Q E hr h => ?_)
  · obtain ⟨a, v, rfl, _⟩ := h
    rfl
  · obtain ⟨a, v, rfl, ha, k⟩ := h
    refine ⟨_, (pss_one (ps_ost (pv 0) (pv 1) rfl)), ?_⟩
    exact ⟨_, rfl, _, rfl, a, C, rfl, T, hno, .inl ⟨ha, fun dx ndx hda => k dx ndx hda⟩⟩
abbrev s_BadEdition_init : Stmt := inClass (top 8) 0
theorem sc_BadEdition_init : FnScope ["self", "index"] ["self", "index"] (defScope s_BadEdition_init) := ⟨rfl, rfl, rfl, by decide +kernel, rfl, by decide +kernel, by decide +kernel⟩
theorem ok_bad_edition {C : Addr} (F : Fun K "__init__" "BadEdition.__init__" s_BadEdition_init f fd) (T : OexC K C) (hno : PySem.W.findIn K (.ref C) "index" = some none) : FnOk P w K mg base CX0 1 f fd ["self", "index"] (spErrI C "index") := by
  refine F.ok sc_BadEdition_init (fun vs H Q E h => ?_) (fun cdv A outer s H vs Q E hr h => ?_)
  · obtain ⟨a, v, rfl, _⟩ := h
    rfl
  · obtain ⟨a, v, rfl, ha, k⟩ := h
    refine ⟨_, (pss_one (ps_ost (pv 0) (pv 1) rfl)), ?_⟩
    exact ⟨_, rfl, _, rfl, a, C, rfl, T, hno, .inl ⟨ha, fun dx ndx hda => k dx ndx hda⟩⟩
abbrev s_BadText_init : Stmt := inClass (top 10) 0
theorem sc_BadText_init : FnScope ["self", "line"] ["self", "line"] (defScope s_BadText_init) := ⟨rfl, rfl, rfl, by decide +kernel, rfl, by decide +kernel, by decide +kernel⟩
theorem ok_bad_text {C : Addr} (F : Fun K "__init__" "BadText.__init__" s_BadText_init f fd) (T : OexC K C) (hno : PySem.W.findIn K (.ref C) "line" = some none) : FnOk P w K mg base CX0 1 f fd ["self", "line"] (spErrI C "line") := by
  refine F.ok sc_BadText_init (fun vs H Q E h => ?_) (fun cdv A outer s H vs Q E hr h => ?_)
  · obtain ⟨a, v, rfl, _⟩ := h
    rfl
  · obtain ⟨a, v, rfl, ha, k⟩ := h
    refine ⟨_, (pss_one (ps_ost (pv 0) (pv 1) rfl)), ?_⟩
    exact ⟨_, rfl, _, rfl, a, C, rfl, T, hno, .inl ⟨ha, fun dx ndx hda => k dx ndx hda⟩⟩
abbrev s_BadDeed_init : Stmt := inClass (top 12) 0
theorem sc_BadDeed_init : FnScope ["self", "index"] ["self", "index"] (defScope s_BadDeed_init) := ⟨rfl, rfl, rfl, by decide +kernel, rfl, by decide +kernel, by decide +kernel⟩
theorem ok_bad_deed {C : Addr} (F : Fun K "__init__" "BadDeed.__init__" s_BadDeed_init f fd) (T : OexC K C) (hno : PySem.W.findIn K (.ref C) "index" = some none) : FnOk P w K mg base CX0 1 f fd ["self", "index"] (spErrI C "index") := by
  refine F.ok sc_BadDeed_init (fun vs H Q E h => ?_) (fun cdv A outer s H vs Q E hr h => ?_)
  · obtain ⟨a, v, rfl, _⟩ := h
    rfl
  · obtain ⟨a, v, rfl, ha, k⟩ := h
    refine ⟨_, (pss_one (ps_ost (pv 0) (pv 1) rfl)), ?_⟩
    exact ⟨_, rfl, _, rfl, a, C, rfl, T, hno, .inl ⟨ha, fun dx ndx hda => k dx ndx hda⟩⟩
abbrev s_BadFault_init : Stmt := inClass (top 13) 0
theorem sc_BadFault_init : FnScope ["self", "fault"] ["self", "fault"] (defScope s_BadFault_init) := ⟨rfl, rfl, rfl, by decide +kernel, rfl, by decide +kernel, by decide +kernel⟩
theorem ok_bad_fault {C : Addr} (F : Fun K "__init__" "BadFault.__init__" s_BadFault_init f fd) (T : OexC K C) (hno : PySem.W.findIn K (.ref C) "fault" = some none) : FnOk P w K mg base CX0 1 f fd ["self", "fault"] (spErrI C "fault") := by
  refine F.ok sc_BadFault_init (fun vs H Q E h => ?_) (fun cdv A outer s H vs Q E hr h => ?_)
  · obtain ⟨a, v, rfl, _⟩ := h
    rfl
  · obtain ⟨a, v, rfl, ha, k⟩ := h
    refine ⟨_, (pss_one (ps_ost (pv 0) (pv 1) rfl)), ?_⟩
    exact ⟨_, rfl, _, rfl, a, C, rfl, T, hno, .inl ⟨ha, fun dx ndx hda => k dx ndx hda⟩⟩
abbrev s_BadKinds_init : Stmt := inClass (top 14) 0
theorem sc_BadKinds_init : FnScope ["self", "kinds"] ["self", "kinds"] (defScope s_BadKinds_init) := ⟨rfl, rfl, rfl, by decide +kernel, rfl, by decide +kernel, by decide +kernel⟩
theorem ok_bad_kinds {C : Addr} (F : Fun K "__init__" "BadKinds.__init__" s_BadKinds_init f fd) (T : OexC K C) (hno : PySem.W.findIn K (.ref C) "kinds" = some none) : FnOk P w K mg base CX0 1 f fd ["self", "kinds"] (spErrI C "kinds") := by
  refine F.ok sc_BadKinds_init (fun vs H Q E h => ?_) (fun cdv A outer s H vs Q E hr h => ?_)
  · obtain ⟨a, v, rfl, _⟩ := h
    rfl
  · obtain ⟨a, v, rfl, ha, k⟩ := h
    refine ⟨_, (pss_one (ps_ost (pv 0) (pv 1) rfl)), ?_⟩
    exact ⟨_, rfl, _, rfl, a, C, rfl, T, hno, .inl ⟨ha, fun dx ndx hda => k dx ndx hda⟩⟩
abbrev s_TooMany_init : Stmt := inClass (top 15) 0
theorem sc_TooMany_init : FnScope ["self", "most"] ["self", "most"] (defScope s_TooMany_init) := ⟨rfl, rfl, rfl, by decide +kernel, rfl, by decide +kernel, by decide +kernel⟩
theorem ok_too_many {C : Addr} (F : Fun K "__init__" "TooMany.__init__" s_TooMany_init f fd) (T : OexC K C) (hno : PySem.W.findIn K (.ref C) "most" = some none) : FnOk P w K mg base CX0 1 f fd ["self", "most"] (spErrI C "most") := by
  refine F.ok sc_TooMany_init (fun vs H Q E h => ?_) (fun cdv A outer s H vs Q E hr h => ?_)
  · obtain ⟨a, v, rfl, _⟩ := h
    rfl
  · obtain ⟨a, v, rfl, ha, k⟩ := h
    refine ⟨_, (pss_one (ps_ost (pv 0) (pv 1) rfl)), ?_⟩
    exact ⟨_, rfl, _, rfl, a, C, rfl, T, hno, .inl ⟨ha, fun dx ndx hda => k dx ndx hda⟩⟩
abbrev s_BadMark_init : Stmt := inClass (top 16) 0
theorem sc_BadMark_init : FnScope ["self", "mark"] ["self", "mark"] (defScope s_BadMark_init) := ⟨rfl, rfl, rfl, by decide +kernel, rfl, by decide +kernel, by decide +kernel⟩
theorem ok_bad_mark {C : Addr} (F : Fun K "__init__" "BadMark.__init__" s_BadMark_init f fd) (T : OexC K C) (hno : PySem.W.findIn K (.ref C) "mark" = some none) : FnOk P w K mg base CX0 1 f fd ["self", "mark"] (spErrI C "mark") := by
  refine F.ok sc_BadMark_init (fun vs H Q E h => ?_) (fun cdv A outer s H vs Q E hr h => ?_)
  · obtain ⟨a, v, rfl, _⟩ := h
    rfl
  · obtain ⟨a, v, rfl, ha, k⟩ := h
    refine ⟨_, (pss_one (ps_ost (pv 0) (pv 1) rfl)), ?_⟩
    exact ⟨_, rfl, _, rfl, a, C, rfl, T, hno, .inl ⟨ha, fun dx ndx hda => k dx ndx hda⟩⟩
abbrev s_BadJump_init : Stmt := inClass (top 17) 0
theorem sc_BadJump_init : FnScope ["self", "thing"] ["self", "thing"] (defScope s_BadJump_init) := ⟨rfl, rfl, rfl, by decide +kernel, rfl, by decide +kernel, by decide +kernel⟩
theorem ok_bad_jump {C : Addr} (F : Fun K "__init__" "BadJump.__init__" s_BadJump_init f fd) (T : OexC K C) (hno : PySem.W.findIn K (.ref C) "thing" = some none) : FnOk P w K mg base CX0 1 f fd ["self", "thing"] (spErrI C "thing") := by
  refine F.ok sc_BadJump_init (fun vs H Q E h => ?_) (fun cdv A outer s H vs Q E hr h => ?_)
  · obtain ⟨a, v, rfl, _⟩ := h
    rfl
  · obtain ⟨a, v, rfl, ha, k⟩ := h
    refine ⟨_, (pss_one (ps_ost (pv 0) (pv 1) rfl)), ?_⟩
    exact ⟨_, rfl, _, rfl, a, C, rfl, T, hno, .inl ⟨ha, fun dx ndx hda => k dx ndx hda⟩⟩
abbrev s_BadRule_init : Stmt := inClass (top 9) 0
theorem sc_BadRule_init : FnScope ["self", "index", "reason"] ["self", "index", "reason"] (defScope s_BadRule_init) := ⟨rfl, rfl, rfl, by decide +kernel, rfl, by decide +kernel, by decide +kernel⟩
theorem ok_bad_rule {C : Addr} (F : Fun K "__init__" "BadRule.__init__" s_BadRule_init f fd) (T : OexC K C) (hi : PySem.W.findIn K (.ref C) "index" = some none) (hr : PySem.W.findIn K (.ref C) "reason" = some none) : FnOk P w K mg base CX0 1 f fd ["self", "index", "reason"] (spErrI2 C "index" "reason") := by
  refine F.ok sc_BadRule_init (fun vs H Q E h => ?_) (fun cdv A outer s H vs Q E hr' h => ?_)
  · obtain ⟨a, v, v2, rfl, _⟩ := h
    rfl
  · obtain ⟨a, v1, v2, rfl, ha, k⟩ := h
    refine ⟨_, pss_cons (ps_ost (pv 0) (pv 1) rfl) (pss_one (ps_ost (pv 0) (pv 2) rfl)), ?_⟩
    exact ⟨_, rfl, _, rfl, a, C, rfl, T, hi, .inl ⟨ha, fun dx ndx hda => ⟨_, rfl, _, rfl, a, C, rfl, T, hr, .inr ⟨dx, [("index", v1)], upd_same, by rw [upd_ne hda]; exact upd_same, (by show 1 ≤ 900; decide), k dx ndx hda⟩⟩⟩⟩
end
/-! ### the errors' classes and fields, in the law's order -/
def erN : List Str := ["BadWord", "BadPassage", "BadCount", "BadCut", "BadSize", "BadEdition", "BadText", "BadDeed", "BadFault", "BadKinds", "TooMany", "BadMark", "BadJump", "BadRule", "OtherWork", "BadSetting", "Away"]
def erF : List Str := ["word", "index", "count", "number", "size", "index", "line", "index", "fault", "kinds", "most", "mark", "thing"]
/-- at e: an error of the class at C that keeps fs -/
def ErrX (H : Hp) (e C : Addr) (fs : List (Str × V)) : Prop := ∃ d, H e = some (exo e C (some d)) ∧ H d = some (exd d fs)
theorem ErrX.ex {H H' : Hp} {e C : Addr} {fs : List (Str × V)} (h : ErrX H e C fs) (x : Ex H H') : ErrX H' e C fs := let ⟨d, h1, h2⟩ := h; ⟨d, x _ _ h1, x _ _ h2⟩
theorem ErrX.at {H : Hp} {e C : Addr} {fs : List (Str × V)} (h : ErrX H e C fs) : ExAt H e C := let ⟨d, h1, h2⟩ := h; .inr ⟨d, fs, h1, h2⟩
def EvE (te : TE) (σ : L2.St) (H : Hp) (C : Addr) (fs : List (Str × V)) : Prop := ∀ H1, Ex H H1 → ∀ Q : VK, (∀ e H2, Ex H1 H2 → ErrX H2 e C fs → Q (.ref e) H2) → te σ H1 Q
def EvEs (ta : TA) (σ : L2.St) (H : Hp) (ps : List (Addr × List (Str × V))) : Prop := ∀ H1, Ex H H1 → ∀ Q : List V → Hp → Prop, (∀ (es : List Addr) H2, Ex H1 H2 → Paired (fun e p => ErrX H2 e p.1 p.2) es ps → Q (es.map V.ref) H2) → ta σ H1 Q
theorem ex_made {H : Hp} {a d C : Addr} {o1 o2 : HO} {u : HO} (na : H a = none) (nd : (upd H a o1) d = none) (hda : d ≠ a) : Ex H (upd (upd (upd H a o1) d o2) a u) := fun b o h => by
  rw [upd_ne hda] at nd
  rw [upd_ne (ne_of_none h na), upd_ne (ne_of_none h nd), upd_ne (ne_of_none h na)]
  exact h
section
variable {σ : L2.St} {H : Hp} {ta tb : TE} {tr : TA} {C : Addr} {f f1 f2 : Str} {x y : V}
theorem ee_mk (h : Ev ta σ H x) : EvE (tErV C (spErrI C f) (tCons ta tNil)) σ H C [(f, x)] := fun H1 e Q q => h H1 e _ fun H2 e2 =>
  ⟨by show 1 ≤ 1000; decide, fun a na => ⟨a, x, rfl, upd_same, fun dx ndx hda => ⟨rfl, q a _ (Ex.trans e2 (ex_made (C := C) na ndx hda)) ⟨dx, upd_same, by rw [upd_ne hda]; exact upd_same⟩⟩⟩⟩
theorem ee_mkK (h : Ev ta σ H x) : EvE (tErVK C 1 (spErrI C f) oneR (tCons ta tNil)) σ H C [(f, x)] := fun H1 e Q q => h H1 e _ fun H2 e2 =>
  ⟨rfl, fun a na => ⟨a, x, rfl, upd_same, fun dx ndx hda => ⟨rfl, q a _ (Ex.trans e2 (ex_made (C := C) na ndx hda)) ⟨dx, upd_same, by rw [upd_ne hda]; exact upd_same⟩⟩⟩⟩
theorem ex_made2 {H : Hp} {a d : Addr} {o1 o2 o3 : HO} {u : HO} (na : H a = none) (nd : (upd H a o1) d = none) (hda : d ≠ a) : Ex H (upd (upd (upd (upd H a o1) d o2) a u) d o3) := fun b o h => by
  have nd' := nd
  rw [upd_ne hda] at nd'
  rw [upd_ne (ne_of_none h nd')]
  exact ex_made (C := a) na nd hda b o h
theorem ee_mk2 (h : Ev ta σ H x) (h2 : Ev tb σ H y) : EvE (tErV C (spErrI2 C f1 f2) (tCons ta (tCons tb tNil))) σ H C [(f2, y), (f1, x)] := fun H1 e Q q => h H1 e _ fun H2 e2 => h2 H2 (Ex.trans e e2) _ fun H3 e3 =>
  ⟨by show 2 ≤ 1000; decide, fun a na => ⟨a, x, y, rfl, upd_same, fun dx ndx hda => ⟨rfl, q a _ (Ex.trans e2 (Ex.trans e3 (ex_made2 na ndx hda))) ⟨dx, by rw [upd_ne hda.symm]; exact upd_same, upd_same⟩⟩⟩⟩
theorem ee_mkK2 (h : Ev ta σ H y) (h2 : Ev tb σ H x) : EvE (tErVK C 2 (spErrI2 C f1 f2) swapR (tCons ta (tCons tb tNil))) σ H C [(f2, y), (f1, x)] := fun H1 e Q q => h H1 e _ fun H2 e2 => h2 H2 (Ex.trans e e2) _ fun H3 e3 =>
  ⟨rfl, fun a na => ⟨a, x, y, rfl, upd_same, fun dx ndx hda => ⟨rfl, q a _ (Ex.trans e2 (Ex.trans e3 (ex_made2 na ndx hda))) ⟨dx, by rw [upd_ne hda.symm]; exact upd_same, upd_same⟩⟩⟩⟩
theorem ees_nil : EvEs tNil σ H [] := fun H1 _ Q q => q [] H1 (Ex.refl _) .nil
theorem ees_cons {fs : List (Str × V)} {ps : List (Addr × List (Str × V))} (h : EvE ta σ H C fs) (hr : EvEs tr σ H ps) : EvEs (tCons ta tr) σ H ((C, fs) :: ps) := fun H1 e Q q => h H1 e _ fun a H2 e2 x => hr H2 (Ex.trans e e2) _ fun es H3 e3 y => q (a :: es) H3 (Ex.trans e2 e3) (.cons (x.ex e3) y)
theorem paired_at {α β : Type} {R : α → β → Prop} : ∀ {xs : List α} {ys : List β}, Paired R xs ys → ∀ (i : Nat) y, ys[i]? = some y → ∃ x, xs[i]? = some x ∧ R x y
  | _, _, .nil, i, y, h => by simp at h
  | _, _, .cons h t, 0, y, q => ⟨_, rfl, by cases q; exact h⟩
  | _, _, .cons h t, i + 1, y, q => paired_at t i y (by simpa using q)
/-- the error with a number in such a list -/
theorem ee_ix {K : PySem.W.Frag} {ti : TE} {i : Nat} {fs : List (Str × V)} {ps : List (Addr × List (Str × V))} (h : EvEs tr σ H ps) (hl : ps.length ≤ 1000) (hi : Ev ti σ H (.int (i : Nat))) (hp : ps[i]? = some (C, fs)) : EvE (tOp (rIxL K) (tLst tr) ti) σ H C fs := fun H1 e Q q =>
  h H1 e _ fun es H2 e2 p => ⟨sz_of (by rw [List.length_map, p.length]; omega), fun l nl => hi _ (Ex.trans e (Ex.trans e2 (Ex.new nl))) _ fun H3 e3 => by
    obtain ⟨a, ha, hx⟩ := paired_at p i _ hp
    exact rv_ixL (xs := es.map V.ref) (SqL.of (e3 _ _ upd_same)) (atI_n1 (by rw [List.getElem?_map, ha]; rfl)) H3 (Ex.refl _) _ fun H4 e4 => q a H4 (Ex.trans e2 (Ex.trans (Ex.new nl) (Ex.trans e3 e4))) (hx.ex (Ex.trans (Ex.new nl) (Ex.trans e3 e4)))⟩
end
end Lm

namespace Lm
open PySem L2 Evl RZ

theorem paired_imp {α β : Type} {R S : α → β → Prop} (h : ∀ a b, R a b → S a b) : ∀ {xs : List α} {ys : List β}, Paired R xs ys → Paired S xs ys
  | _, _, .nil => .nil
  | _, _, .cons a t => .cons (h _ _ a) (paired_imp h t)
section
variable {σ : L2.St} {H : Hp} {tr : TA} {C : Addr} {K : PySem.W.Frag}
theorem er_if {t : TT} {ta tb : TE} {D : Ends} {b : Bool} (h : EvT t σ H b) (k1 : b = true → ∀ H1, Ex H H1 → ta σ H1 D.rt) (k2 : b = false → ∀ H1, Ex H H1 → tb σ H1 D.rt) : tRet (tIf t ta tb) D σ H := h H (Ex.refl _) _ fun H1 e => by
  cases b with
  | true => exact k1 rfl H1 e
  | false => exact k2 rfl H1 e
theorem q_asgEs {tz : TS} {D : Ends} {i : Nat} {ps : List (Addr × List (Str × V))} (h : EvEs tr σ H ps) (hl : ps.length ≤ 1000) (k : ∀ l es H1, H l = none → Ex H H1 → H1 l = some (.lst (es.map V.ref)) → Paired (fun e p => ErrX H1 e p.1 p.2) es ps → tz D (σ.set i (some (.ref l))) H1) : tSeq (tAsg (tLst tr) (gName i)) tz D σ H :=
  h H (Ex.refl _) _ fun es H2 e2 p => ⟨sz_of (by rw [List.length_map, p.length]; omega), fun l nl => k l es _ (fresh_back e2 nl) (Ex.trans e2 (Ex.new nl)) upd_same (paired_imp (fun _ _ h => h.ex (Ex.new nl)) p)⟩
theorem ee_ixV {tl ti : TE} {l : Addr} {es : List Addr} {i : Nat} {fs : List (Str × V)} {ps : List (Addr × List (Str × V))} (hv : Ev tl σ H (.ref l)) (hl : H l = some (.lst (es.map V.ref))) (p : Paired (fun e p => ErrX H e p.1 p.2) es ps) (hi : Ev ti σ H (.int (i : Nat))) (hp : ps[i]? = some (C, fs)) : EvE (tOp (rIxL K) tl ti) σ H C fs := fun H1 e Q q => by
  obtain ⟨a, ha, hx⟩ := paired_at p i _ hp
  exact ev_op hv hi (rv_ixL (xs := es.map V.ref) (SqL.of hl) (atI_n1 (v := .ref a) (by rw [List.getElem?_map, ha]; rfl))) H1 e _ fun H2 e2 => q a H2 e2 (hx.ex (Ex.trans e e2))
theorem EvE.at {te : TE} {fs : List (Str × V)} (h : EvE te σ H C fs) {H1 : Hp} (e : Ex H H1) : EvE te σ H1 C fs := fun H2 e2 => h H2 (Ex.trans e e2)
theorem r_erE {te : TE} {fs : List (Str × V)} {Q : VK} (h : EvE te σ H C fs) (k : ∀ e H1, Ex H H1 → ErrX H1 e C fs → Q (.ref e) H1) : te σ H Q := h H (Ex.refl _) Q k
end
theorem ev_km {σ : L2.St} {H : Hp} {i k : Nat} {c : Int} (m : Nat) (h : σ[i]? = some (some (.int (k : Nat)))) (hk : m ≤ k) (hc : c = (m : Int) := by rfl) : Ev (tOp (rI0 fun i j => .int (i - j)) (tVar i) (tC (.int c))) σ H (.int ((k - m : Nat) : Int)) := ev_is (ev_op (ev_var h) ev_c rv_I0) (by
  show V.int ((k : Int) - c) = _
  rw [hc]
  congr 1
  omega)
theorem et_ltk {σ : L2.St} {H : Hp} {i k : Nat} {c : Int} (m : Nat) (h : σ[i]? = some (some (.int (k : Nat)))) (hc : c = (m : Int) := by rfl) : EvT (tTest (tOp (rI0 fun i j => .bl (decide (i < j))) (tVar i) (tC (.int c)))) σ H (decide (k < m)) := et_is (et_test (ev_op (ev_var h) ev_c rv_I0)) (by
  subst hc
  show decide ((k : Int) < (m : Int)) = decide (k < m)
  by_cases z : k < m
  · rw [decide_eq_true z, decide_eq_true (by omega)]
  · rw [decide_eq_false z, decide_eq_false (by omega)])
theorem et_eqk {σ : L2.St} {H : Hp} {i k : Nat} {c : Int} (m : Nat) (h : σ[i]? = some (some (.int (k : Nat)))) (hc : c = (m : Int) := by rfl) : EvT (tTest (tOp rEq (tVar i) (tC (.int c)))) σ H (decide (k = m)) := et_is (et_test (ev_op (ev_var h) ev_c (rv_eq rfl))) (by
  subst hc
  by_cases z : k = m
  · subst z; simp
  · rw [decide_eq_false z, decide_eq_false (fun q => z (by injection q with q; omega))])
section
variable {P : Program} {w : World} {K : PySem.W.Frag} {mg : Str → Option Value} {base : Heap} {f : Addr} {fd : FuncData}
def spMade (cs : List Addr) : Sp := fun vs H Q _ => ∃ (k : Nat) (x : V) (b : Bool), vs = [.int (k : Nat), x, .bl b] ∧ k < 13 ∧ ∀ e C f H', cs[k]? = some C → erF[k]? = some f → Ex H H' → ErrX H' e C [(f, x)] → Q (.ref e) H'
abbrev s_made : Stmt := top 26
theorem sc_made : FnScope ["_law_k", "_law_x", "_law_named", "_law_some", "_law_bare"] ["_law_k", "_law_x", "_law_named"] (defScope s_made) := ⟨rfl, rfl, rfl, by decide +kernel, rfl, by decide +kernel, by decide +kernel⟩
theorem ok_made {C_BadWord C_BadPassage C_BadCount C_BadCut C_BadSize C_BadEdition C_BadText C_BadDeed C_BadFault C_BadKinds C_TooMany C_BadMark C_BadJump C_BadRule C_OtherWork C_BadSetting C_Away C_LeafError : Addr} (F : L2.Fun K "_law_made" "_law_made" s_made f fd) (T : Blt mg) {I_BadWord : Addr} {D_BadWord : FuncData} (V_BadWord : ErrV P w K mg base 1 "BadWord" C_BadWord I_BadWord D_BadWord ["self", "word"] (spErrI C_BadWord "word")) (BK_BadWord : KBn K D_BadWord ["self", "word"] 1 ["word"] oneR oneR) {I_BadPassage : Addr} {D_BadPassage : FuncData} (V_BadPassage : ErrV P w K mg base 1 "BadPassage" C_BadPassage I_BadPassage D_BadPassage ["self", "index"] (spErrI C_BadPassage "index")) (BK_BadPassage : KBn K D_BadPassage ["self", "index"] 1 ["index"] oneR oneR) {I_BadCount : Addr} {D_BadCount : FuncData} (V_BadCount : ErrV P w K mg base 1 "BadCount" C_BadCount I_BadCount D_BadCount ["self", "count"] (spErrI C_BadCount "count")) (BK_BadCount : KBn K D_BadCount ["self", "count"] 1 ["count"] oneR oneR) {I_BadCut : Addr} {D_BadCut : FuncData} (V_BadCut : ErrV P w K mg base 1 "BadCut" C_BadCut I_BadCut D_BadCut ["self", "number"] (spErrI C_BadCut "number")) (BK_BadCut : KBn K D_BadCut ["self", "number"] 1 ["number"] oneR oneR) {I_BadSize : Addr} {D_BadSize : FuncData} (V_BadSize : ErrV P w K mg base 1 "BadSize" C_BadSize I_BadSize D_BadSize ["self", "size"] (spErrI C_BadSize "size")) (BK_BadSize : KBn K D_BadSize ["self", "size"] 1 ["size"] oneR oneR) {I_BadEdition : Addr} {D_BadEdition : FuncData} (V_BadEdition : ErrV P w K mg base 1 "BadEdition" C_BadEdition I_BadEdition D_BadEdition ["self", "index"] (spErrI C_BadEdition "index")) (BK_BadEdition : KBn K D_BadEdition ["self", "index"] 1 ["index"] oneR oneR) {I_BadText : Addr} {D_BadText : FuncData} (V_BadText : ErrV P w K mg base 1 "BadText" C_BadText I_BadText D_BadText ["self", "line"] (spErrI C_BadText "line")) (BK_BadText : KBn K D_BadText ["self", "line"] 1 ["line"] oneR oneR) {I_BadDeed : Addr} {D_BadDeed : FuncData} (V_BadDeed : ErrV P w K mg base 1 "BadDeed" C_BadDeed I_BadDeed D_BadDeed ["self", "index"] (spErrI C_BadDeed "index")) (BK_BadDeed : KBn K D_BadDeed ["self", "index"] 1 ["index"] oneR oneR) {I_BadFault : Addr} {D_BadFault : FuncData} (V_BadFault : ErrV P w K mg base 1 "BadFault" C_BadFault I_BadFault D_BadFault ["self", "fault"] (spErrI C_BadFault "fault")) (BK_BadFault : KBn K D_BadFault ["self", "fault"] 1 ["fault"] oneR oneR) {I_BadKinds : Addr} {D_BadKinds : FuncData} (V_BadKinds : ErrV P w K mg base 1 "BadKinds" C_BadKinds I_BadKinds D_BadKinds ["self", "kinds"] (spErrI C_BadKinds "kinds")) (BK_BadKinds : KBn K D_BadKinds ["self", "kinds"] 1 ["kinds"] oneR oneR) {I_TooMany : Addr} {D_TooMany : FuncData} (V_TooMany : ErrV P w K mg base 1 "TooMany" C_TooMany I_TooMany D_TooMany ["self", "most"] (spErrI C_TooMany "most")) (BK_TooMany : KBn K D_TooMany ["self", "most"] 1 ["most"] oneR oneR) {I_BadMark : Addr} {D_BadMark : FuncData} (V_BadMark : ErrV P w K mg base 1 "BadMark" C_BadMark I_BadMark D_BadMark ["self", "mark"] (spErrI C_BadMark "mark")) (BK_BadMark : KBn K D_BadMark ["self", "mark"] 1 ["mark"] oneR oneR) {I_BadJump : Addr} {D_BadJump : FuncData} (V_BadJump : ErrV P w K mg base 1 "BadJump" C_BadJump I_BadJump D_BadJump ["self", "thing"] (spErrI C_BadJump "thing")) (BK_BadJump : KBn K D_BadJump ["self", "thing"] 1 ["thing"] oneR oneR) : FnOk P w K mg base CX0 3 f fd ["_law_k", "_law_x", "_law_named"] (spMade [C_BadWord, C_BadPassage, C_BadCount, C_BadCut, C_BadSize, C_BadEdition, C_BadText, C_BadDeed, C_BadFault, C_BadKinds, C_TooMany, C_BadMark, C_BadJump, C_BadRule, C_OtherWork, C_BadSetting, C_Away]) := by
  refine F.ok sc_made (fun vs H Q E h => ?_) (fun cdv A outer s H vs Q E hr h => ?_)
  · obtain ⟨k, x, b, rfl, _⟩ := h
    rfl
  · obtain ⟨k, x, b, rfl, hk, q⟩ := h
    refine ⟨_, (pss_cons (ps_if (pt_cmpR op_lt (pv 0) pe_int (nomark _)) (pss_cons (ps_set (i := 3) sc_made.nd rfl (by first | exact Or.inl rfl | exact Or.inr rfl) (pe_lst (pa_cons (pe_erVK V_BadWord BK_BadWord (hr.mono (by decide)) (pk_cons (pv 1) pk_nil) (by decide)) (pa_cons (pe_erVK V_BadPassage BK_BadPassage (hr.mono (by decide)) (pk_cons (pv 1) pk_nil) (by decide)) (pa_cons (pe_erVK V_BadCount BK_BadCount (hr.mono (by decide)) (pk_cons (pv 1) pk_nil) (by decide)) (pa_cons (pe_erVK V_BadCut BK_BadCut (hr.mono (by decide)) (pk_cons (pv 1) pk_nil) (by decide)) pa_nil))))))
        (pss_one (ps_ret (pe_ifExp (pt_val (pv 2)) (pe_ix ix_list (pv 3) (pv 0) (fun _ _ => rfl)) (pe_ix ix_list (pe_lst (pa_cons (pe_erV V_BadWord (hr.mono (by decide)) (pa_cons (pv 1) pa_nil)) (pa_cons (pe_erV V_BadPassage (hr.mono (by decide)) (pa_cons (pv 1) pa_nil)) (pa_cons (pe_erV V_BadCount (hr.mono (by decide)) (pa_cons (pv 1) pa_nil)) (pa_cons (pe_erV V_BadCut (hr.mono (by decide)) (pa_cons (pv 1) pa_nil)) pa_nil))))) (pv 0) (fun _ _ => rfl)))))) pss_nil)
        (pss_cons (ps_if (pt_cmpR op_lt (pv 0) pe_int (nomark _)) (pss_cons (ps_set (i := 3) sc_made.nd rfl (by first | exact Or.inl rfl | exact Or.inr rfl) (pe_lst (pa_cons (pe_erVK V_BadSize BK_BadSize (hr.mono (by decide)) (pk_cons (pv 1) pk_nil) (by decide)) (pa_cons (pe_erVK V_BadEdition BK_BadEdition (hr.mono (by decide)) (pk_cons (pv 1) pk_nil) (by decide)) (pa_cons (pe_erVK V_BadText BK_BadText (hr.mono (by decide)) (pk_cons (pv 1) pk_nil) (by decide)) (pa_cons (pe_erVK V_BadDeed BK_BadDeed (hr.mono (by decide)) (pk_cons (pv 1) pk_nil) (by decide)) pa_nil))))))
        (pss_one (ps_ret (pe_ifExp (pt_val (pv 2)) (pe_ix ix_list (pv 3) (pe_op op_sub (pv 0) pe_int) (fun _ _ => rfl)) (pe_ix ix_list (pe_lst (pa_cons (pe_erV V_BadSize (hr.mono (by decide)) (pa_cons (pv 1) pa_nil)) (pa_cons (pe_erV V_BadEdition (hr.mono (by decide)) (pa_cons (pv 1) pa_nil)) (pa_cons (pe_erV V_BadText (hr.mono (by decide)) (pa_cons (pv 1) pa_nil)) (pa_cons (pe_erV V_BadDeed (hr.mono (by decide)) (pa_cons (pv 1) pa_nil)) pa_nil))))) (pe_op op_sub (pv 0) pe_int) (fun _ _ => rfl)))))) pss_nil)
        (pss_cons (ps_set (i := 3) sc_made.nd rfl (by first | exact Or.inl rfl | exact Or.inr rfl) (pe_lst (pa_cons (pe_erVK V_BadFault BK_BadFault (hr.mono (by decide)) (pk_cons (pv 1) pk_nil) (by decide)) (pa_cons (pe_erVK V_BadKinds BK_BadKinds (hr.mono (by decide)) (pk_cons (pv 1) pk_nil) (by decide)) (pa_cons (pe_erVK V_TooMany BK_TooMany (hr.mono (by decide)) (pk_cons (pv 1) pk_nil) (by decide)) (pa_cons (pe_erVK V_BadMark BK_BadMark (hr.mono (by decide)) (pk_cons (pv 1) pk_nil) (by decide)) (pa_cons (pe_erVK V_BadJump BK_BadJump (hr.mono (by decide)) (pk_cons (pv 1) pk_nil) (by decide)) pa_nil)))))))
        (pss_cons (ps_set (i := 4) sc_made.nd rfl (by first | exact Or.inl rfl | exact Or.inr rfl) (pe_lst (pa_cons (pe_erV V_BadFault (hr.mono (by decide)) (pa_cons (pv 1) pa_nil)) (pa_cons (pe_erV V_BadKinds (hr.mono (by decide)) (pa_cons (pv 1) pa_nil)) (pa_cons (pe_erV V_TooMany (hr.mono (by decide)) (pa_cons (pv 1) pa_nil)) (pa_cons (pe_erV V_BadMark (hr.mono (by decide)) (pa_cons (pv 1) pa_nil)) (pa_cons (pe_erV V_BadJump (hr.mono (by decide)) (pa_cons (pv 1) pa_nil)) pa_nil)))))))
        (pss_one (ps_ret (pe_ifExp (pt_val (pv 2)) (pe_ix ix_list (pv 3) (pe_op op_sub (pv 0) pe_int) (fun _ _ => rfl)) (pe_ix ix_list (pv 4) (pe_op op_sub (pv 0) pe_int) (fun _ _ => rfl))))))))), ?_⟩
    refine q_when (et_ltk 4 rfl) (fun h4 H1 e1 => ?_) fun h4 H1 e1 => ?_
    · have h4 : k < 4 := of_decide_eq_true h4
      have hp0 : ∃ C f, ([C_BadWord, C_BadPassage, C_BadCount, C_BadCut, C_BadSize, C_BadEdition, C_BadText, C_BadDeed, C_BadFault, C_BadKinds, C_TooMany, C_BadMark, C_BadJump, C_BadRule, C_OtherWork, C_BadSetting, C_Away] : List Addr)[k]? = some C ∧ erF[k]? = some f ∧ ([(C_BadWord, [("word", x)]), (C_BadPassage, [("index", x)]), (C_BadCount, [("count", x)]), (C_BadCut, [("number", x)])] : List (Addr × List (Str × V)))[k - 0]? = some (C, [(f, x)]) := by
        rcases (by omega : k = 0 ∨ k = 1 ∨ k = 2 ∨ k = 3) with rfl | rfl | rfl | rfl <;> exact ⟨_, _, rfl, rfl, rfl⟩
      obtain ⟨C, f, hC, hf, hps⟩ := hp0
      refine q_asgEs (ps := [(C_BadWord, [("word", x)]), (C_BadPassage, [("index", x)]), (C_BadCount, [("count", x)]), (C_BadCut, [("number", x)])]) (ees_cons (ee_mkK (ev_var rfl)) (ees_cons (ee_mkK (ev_var rfl)) (ees_cons (ee_mkK (ev_var rfl)) (ees_cons (ee_mkK (ev_var rfl)) ees_nil)))) (by show 4 ≤ 1000; decide) fun l es H2 nl e2 hl hp => ?_
      refine er_if (et_B (ev_var (v := .bl b) rfl)) (fun _ H3 e3 => ?_) (fun _ H3 e3 => ?_)
      · exact r_erE (ee_ixV (ev_var rfl) (e3 _ _ hl) (paired_imp (fun _ _ h => h.ex e3) hp) (ev_var rfl) hps) fun e H4 e4 hx => q e C f H4 hC hf (Ex.trans e1 (Ex.trans e2 (Ex.trans e3 e4))) hx
      · exact r_erE (ee_ix (ees_cons (ee_mk (ev_var rfl)) (ees_cons (ee_mk (ev_var rfl)) (ees_cons (ee_mk (ev_var rfl)) (ees_cons (ee_mk (ev_var rfl)) ees_nil)))) (by show 4 ≤ 1000; decide) (ev_var rfl) hps) fun e H4 e4 hx => q e C f H4 hC hf (Ex.trans e1 (Ex.trans e2 (Ex.trans e3 e4))) hx
    · have h4 : ¬ k < 4 := of_decide_eq_false h4
      refine q_when (et_ltk 8 rfl) (fun h8 H1' e1' => ?_) fun h8 H1' e1' => ?_
      · have h8 : k < 8 := of_decide_eq_true h8
        have e1 := Ex.trans e1 e1'
        have hp0 : ∃ C f, ([C_BadWord, C_BadPassage, C_BadCount, C_BadCut, C_BadSize, C_BadEdition, C_BadText, C_BadDeed, C_BadFault, C_BadKinds, C_TooMany, C_BadMark, C_BadJump, C_BadRule, C_OtherWork, C_BadSetting, C_Away] : List Addr)[k]? = some C ∧ erF[k]? = some f ∧ ([(C_BadSize, [("size", x)]), (C_BadEdition, [("index", x)]), (C_BadText, [("line", x)]), (C_BadDeed, [("index", x)])] : List (Addr × List (Str × V)))[k - 4]? = some (C, [(f, x)]) := by
          rcases (by omega : k = 4 ∨ k = 5 ∨ k = 6 ∨ k = 7) with rfl | rfl | rfl | rfl <;> exact ⟨_, _, rfl, rfl, rfl⟩
        obtain ⟨C, f, hC, hf, hps⟩ := hp0
        refine q_asgEs (ps := [(C_BadSize, [("size", x)]), (C_BadEdition, [("index", x)]), (C_BadText, [("line", x)]), (C_BadDeed, [("index", x)])]) (ees_cons (ee_mkK (ev_var rfl)) (ees_cons (ee_mkK (ev_var rfl)) (ees_cons (ee_mkK (ev_var rfl)) (ees_cons (ee_mkK (ev_var rfl)) ees_nil)))) (by show 4 ≤ 1000; decide) fun l es H2 nl e2 hl hp => ?_
        refine er_if (et_B (ev_var (v := .bl b) rfl)) (fun _ H3 e3 => ?_) (fun _ H3 e3 => ?_)
        · exact r_erE (ee_ixV (ev_var rfl) (e3 _ _ hl) (paired_imp (fun _ _ h => h.ex e3) hp) (ev_km 4 rfl (by omega)) hps) fun e H4 e4 hx => q e C f H4 hC hf (Ex.trans e1 (Ex.trans e2 (Ex.trans e3 e4))) hx
        · exact r_erE (ee_ix (ees_cons (ee_mk (ev_var rfl)) (ees_cons (ee_mk (ev_var rfl)) (ees_cons (ee_mk (ev_var rfl)) (ees_cons (ee_mk (ev_var rfl)) ees_nil)))) (by show 4 ≤ 1000; decide) (ev_km 4 rfl (by omega)) hps) fun e H4 e4 hx => q e C f H4 hC hf (Ex.trans e1 (Ex.trans e2 (Ex.trans e3 e4))) hx
      · have h8 : ¬ k < 8 := of_decide_eq_false h8
        have e1 := Ex.trans e1 e1'
        have hp0 : ∃ C f, ([C_BadWord, C_BadPassage, C_BadCount, C_BadCut, C_BadSize, C_BadEdition, C_BadText, C_BadDeed, C_BadFault, C_BadKinds, C_TooMany, C_BadMark, C_BadJump, C_BadRule, C_OtherWork, C_BadSetting, C_Away] : List Addr)[k]? = some C ∧ erF[k]? = some f ∧ ([(C_BadFault, [("fault", x)]), (C_BadKinds, [("kinds", x)]), (C_TooMany, [("most", x)]), (C_BadMark, [("mark", x)]), (C_BadJump, [("thing", x)])] : List (Addr × List (Str × V)))[k - 8]? = some (C, [(f, x)]) := by
          rcases (by omega : k = 8 ∨ k = 9 ∨ k = 10 ∨ k = 11 ∨ k = 12) with rfl | rfl | rfl | rfl | rfl <;> exact ⟨_, _, rfl, rfl, rfl⟩
        obtain ⟨C, f, hC, hf, hps⟩ := hp0
        refine q_asgEs (ps := [(C_BadFault, [("fault", x)]), (C_BadKinds, [("kinds", x)]), (C_TooMany, [("most", x)]), (C_BadMark, [("mark", x)]), (C_BadJump, [("thing", x)])]) (ees_cons (ee_mkK (ev_var rfl)) (ees_cons (ee_mkK (ev_var rfl)) (ees_cons (ee_mkK (ev_var rfl)) (ees_cons (ee_mkK (ev_var rfl)) (ees_cons (ee_mkK (ev_var rfl)) ees_nil))))) (by show 5 ≤ 1000; decide) fun l es H2 nl e2 hl hp => ?_
        refine q_asgEs (ps := [(C_BadFault, [("fault", x)]), (C_BadKinds, [("kinds", x)]), (C_TooMany, [("most", x)]), (C_BadMark, [("mark", x)]), (C_BadJump, [("thing", x)])]) (ees_cons (ee_mk (ev_var rfl)) (ees_cons (ee_mk (ev_var rfl)) (ees_cons (ee_mk (ev_var rfl)) (ees_cons (ee_mk (ev_var rfl)) (ees_cons (ee_mk (ev_var rfl)) ees_nil))))) (by show 5 ≤ 1000; decide) fun l2 es2 H3 nl2 e3 hl2 hp2 => ?_
        refine er_if (et_B (ev_var (v := .bl b) rfl)) (fun _ H4 e4 => ?_) (fun _ H4 e4 => ?_)
        · exact r_erE (ee_ixV (ev_var rfl) (e4 _ _ (e3 _ _ hl)) (paired_imp (fun _ _ h => (h.ex e3).ex e4) hp) (ev_km 8 rfl (by omega)) hps) fun e H5 e5 hx => q e C f H5 hC hf (Ex.trans e1 (Ex.trans e2 (Ex.trans e3 (Ex.trans e4 e5)))) hx
        · exact r_erE (ee_ixV (ev_var rfl) (e4 _ _ hl2) (paired_imp (fun _ _ h => h.ex e4) hp2) (ev_km 8 rfl (by omega)) hps) fun e H5 e5 hx => q e C f H5 hC hf (Ex.trans e1 (Ex.trans e2 (Ex.trans e3 (Ex.trans e4 e5)))) hx
end
end Lm

namespace Lm
open PySem L2 Evl RZ
section
variable {σ : L2.St} {H : Hp} {K : PySem.W.Frag}
theorem te_if {t : TT} {ta tb : TE} {Q : VK} {b : Bool} (h : EvT t σ H b) (k1 : b = true → ∀ H1, Ex H H1 → ta σ H1 Q) (k2 : b = false → ∀ H1, Ex H H1 → tb σ H1 Q) : tIf t ta tb σ H Q := h H (Ex.refl _) _ fun H1 e => by
  cases b with
  | true => exact k1 rfl H1 e
  | false => exact k2 rfl H1 e
theorem xv_leaf {i : Nat} {e C : Addr} {fs : List (Str × V)} {f : Str} {x : V} {Q : VK} (hs : σ[i]? = some (some (.ref e))) (hX : XfC K C) (hno : PySem.W.findIn K (.ref C) f = some none) (hx : ErrX H e C fs) (hl : fs.lookup f = some x) (q : Q x H) : tXv K f (tVar i) σ H Q :=
  let ⟨d, h1, h2⟩ := hx
  ⟨_, hs, e, C, d, fs, x, rfl, hX, hno, h1, h2, hl, q⟩
theorem look1 (f : Str) (x : V) : ([(f, x)] : List (Str × V)).lookup f = some x := by simp [List.lookup]
theorem ExAt.ex {H H' : Hp} {a C : Addr} (h : ExAt H a C) (x : Ex H H') : ExAt H' a C := h.imp (fun h => x _ _ h) fun ⟨d, fs, h1, h2⟩ => ⟨d, fs, x _ _ h1, x _ _ h2⟩
theorem ev_isx {e C : Addr} {te : TE} {c : V} {u : Value} {b : Bool} (h : Ev te σ H (.ref e)) (hc : ClsV c u) (I : ErrIs K C) (hx : ExAt H e C) (hk : PySem.W.kitOne K (.ref C) u = some b) : Ev (tCB (rIsX K) (tCons te (tCons (tC c) tNil))) σ H (.bl b) :=
  ev_cb (ea_cons h (ea_cons ev_c ea_nil)) fun H1 e1 Q q => ⟨e, C, c, u, b, rfl, hc, I, hx.ex e1, hk, q H1 (Ex.refl _)⟩
end
section
variable {P : Program} {w : World} {K : PySem.W.Frag} {mg : Str → Option Value} {base : Heap} {f : Addr} {fd : FuncData}
def spField (K : PySem.W.Frag) : Sp := fun vs H Q _ => ∃ (e C : Addr) (k : Nat) (g : Str) (x : V), vs = [.ref e, .int (k : Nat)] ∧ k < 13 ∧ erF[k]? = some g ∧ XfC K C ∧ PySem.W.findIn K (.ref C) g = some none ∧ ErrX H e C [(g, x)] ∧ ∀ H', Ex H H' → Q x H'
abbrev s_field : Stmt := top 27
theorem sc_field : FnScope ["_law_e", "_law_k"] ["_law_e", "_law_k"] (defScope s_field) := ⟨rfl, rfl, rfl, by decide +kernel, rfl, by decide +kernel, by decide +kernel⟩
theorem ok_field_er (F : L2.Fun K "_law_field" "_law_field" s_field f fd) (T : Blt mg) : FnOk P w K mg base CX0 1 f fd ["_law_e", "_law_k"] (spField K) := by
  refine F.ok sc_field (fun vs H Q E h => ?_) (fun cdv A outer s H vs Q E hr h => ?_)
  · obtain ⟨e, C, k, g, x, rfl, _⟩ := h
    rfl
  · obtain ⟨e, C, k, g, x, rfl, hk, hg, hX, hno, hx, q⟩ := h
    refine ⟨_, (pss_cons (ps_if (pt_cmpR op_lt (pv 1) pe_int (nomark _)) (pss_one (ps_ret (pe_ifExp (pt_cmpR op_eq (pv 1) pe_int (nomark _)) (pe_xv (pv 0)) (pe_ifExp (pt_cmpR op_eq (pv 1) pe_int (nomark _)) (pe_xv (pv 0)) (pe_ifExp (pt_cmpR op_eq (pv 1) pe_int (nomark _)) (pe_xv (pv 0)) (pe_xv (pv 0))))))) pss_nil)
        (pss_cons (ps_if (pt_cmpR op_lt (pv 1) pe_int (nomark _)) (pss_one (ps_ret (pe_ifExp (pt_cmpR op_eq (pv 1) pe_int (nomark _)) (pe_xv (pv 0)) (pe_ifExp (pt_cmpR op_eq (pv 1) pe_int (nomark _)) (pe_xv (pv 0)) (pe_xv (pv 0)))))) pss_nil)
        (pss_cons (ps_if (pt_cmpR op_lt (pv 1) pe_int (nomark _)) (pss_one (ps_ret (pe_ifExp (pt_cmpR op_eq (pv 1) pe_int (nomark _)) (pe_xv (pv 0)) (pe_ifExp (pt_cmpR op_eq (pv 1) pe_int (nomark _)) (pe_xv (pv 0)) (pe_xv (pv 0)))))) pss_nil)
        (pss_one (ps_ret (pe_ifExp (pt_cmpR op_eq (pv 1) pe_int (nomark _)) (pe_xv (pv 0)) (pe_xv (pv 0)))))))), ?_⟩
    have leaf : ∀ (fl : Str) (H1 : Hp), Ex H H1 → fl = g → tXv K fl (tVar 0) [some (.ref e), some (.int (k : Nat))] H1 (fun x H' => Q x H') := fun fl H1 e1 hf => by
      subst hf
      exact xv_leaf rfl hX hno (hx.ex e1) (look1 _ _) (q H1 e1)
    have at_ : ∀ (i : Nat) (fl : Str), erF[i]? = some fl → k = i → fl = g := fun i fl h e => by
      subst e
      rw [hg] at h
      exact (Option.some.inj h).symm
    refine q_when (et_ltk 4 rfl) (fun h4 H1 e1 => ?_) fun h4 H1 e1 => ?_
    · have h4 : k < 4 := of_decide_eq_true h4
      refine er_if (et_eqk 0 rfl) (fun a H2 e2 => leaf "word" _ (Ex.trans e1 e2) (at_ 0 _ rfl (of_decide_eq_true a))) fun a H2 e2 => te_if (et_eqk 1 rfl) (fun b H3 e3 => leaf "index" _ (Ex.trans e1 (Ex.trans e2 e3)) (at_ 1 _ rfl (of_decide_eq_true b))) fun b H3 e3 => te_if (et_eqk 2 rfl) (fun c H4 e4 => leaf "count" _ (Ex.trans e1 (Ex.trans e2 (Ex.trans e3 e4))) (at_ 2 _ rfl (of_decide_eq_true c))) fun c H4 e4 => leaf "number" _ (Ex.trans e1 (Ex.trans e2 (Ex.trans e3 e4))) (at_ 3 _ rfl ?_)
      have a := of_decide_eq_false a
      have b := of_decide_eq_false b
      have c := of_decide_eq_false c
      omega
    · have h4 : ¬ k < 4 := of_decide_eq_false h4
      refine q_when (et_ltk 8 rfl) (fun h8 H1' e1' => ?_) fun h8 H1' e1' => ?_
      · have h8 : k < 8 := of_decide_eq_true h8
        refine er_if (et_eqk 4 rfl) (fun a H2 e2 => leaf "size" _ (Ex.trans e1 (Ex.trans e1' e2)) (at_ 4 _ rfl (of_decide_eq_true a))) fun a H2 e2 => te_if (et_eqk 6 rfl) (fun b H3 e3 => leaf "line" _ (Ex.trans e1 (Ex.trans e1' (Ex.trans e2 e3))) (at_ 6 _ rfl (of_decide_eq_true b))) fun b H3 e3 => leaf "index" _ (Ex.trans e1 (Ex.trans e1' (Ex.trans e2 e3))) ?_
        have a := of_decide_eq_false a
        have b := of_decide_eq_false b
        rcases (by omega : k = 5 ∨ k = 7) with z | z
        · exact at_ 5 _ rfl z
        · exact at_ 7 _ rfl z
      · have h8 : ¬ k < 8 := of_decide_eq_false h8
        refine q_when (et_ltk 11 rfl) (fun h11 H2 e2 => ?_) fun h11 H2 e2 => ?_
        · have h11 : k < 11 := of_decide_eq_true h11
          refine er_if (et_eqk 8 rfl) (fun a H3 e3 => leaf "fault" _ (Ex.trans e1 (Ex.trans e1' (Ex.trans e2 e3))) (at_ 8 _ rfl (of_decide_eq_true a))) fun a H3 e3 => te_if (et_eqk 9 rfl) (fun b H4 e4 => leaf "kinds" _ (Ex.trans e1 (Ex.trans e1' (Ex.trans e2 (Ex.trans e3 e4)))) (at_ 9 _ rfl (of_decide_eq_true b))) fun b H4 e4 => leaf "most" _ (Ex.trans e1 (Ex.trans e1' (Ex.trans e2 (Ex.trans e3 e4)))) (at_ 10 _ rfl ?_)
          have a := of_decide_eq_false a
          have b := of_decide_eq_false b
          omega
        · have h11 : ¬ k < 11 := of_decide_eq_false h11
          refine er_if (et_eqk 11 rfl) (fun a H3 e3 => leaf "mark" _ (Ex.trans e1 (Ex.trans e1' (Ex.trans e2 e3))) (at_ 11 _ rfl (of_decide_eq_true a))) fun a H3 e3 => leaf "thing" _ (Ex.trans e1 (Ex.trans e1' (Ex.trans e2 e3))) (at_ 12 _ rfl ?_)
          have a := of_decide_eq_false a
          omega
def spClasses (K : PySem.W.Frag) (cs : List Addr) (L : Addr) : Sp := fun vs H Q _ => ∃ (e C : Addr) (b : Nat → Bool), vs = [.ref e] ∧ ExAt H e C ∧ ErrIs K C ∧ (∀ j D, cs[j]? = some D → PySem.W.kitOne K (.ref C) (.ref D) = some (b j)) ∧ PySem.W.kitOne K (.ref C) (.ref L) = some true ∧ PySem.W.kitOne K (.ref C) (.type "ValueError") = some true ∧
  ∀ p H', H p = none → Ex H H' → H' p = some (.lst (((List.range 17).map b ++ [true, true]).map V.bl)) → Q (.ref p) H'
structure BltV (mg : Str → Option Value) : Prop where
  b : mg "ValueError" = none
  d : mg "dict" = none
abbrev s_classes : Stmt := top 28
theorem sc_classes : FnScope ["_law_e", "_law_found"] ["_law_e"] (defScope s_classes) := ⟨rfl, rfl, rfl, by decide +kernel, rfl, by decide +kernel, by decide +kernel⟩
theorem ok_classes {C_BadWord C_BadPassage C_BadCount C_BadCut C_BadSize C_BadEdition C_BadText C_BadDeed C_BadFault C_BadKinds C_TooMany C_BadMark C_BadJump C_BadRule C_OtherWork C_BadSetting C_Away C_LeafError : Addr} (F : L2.Fun K "_law_classes" "_law_classes" s_classes f fd) (T : Blt mg) (TV : BltV mg) {I_BadWord : Addr} {D_BadWord : FuncData} {ps_BadWord : List Str} {sp_BadWord : Sp} (V_BadWord : ErrV P w K mg base 1 "BadWord" C_BadWord I_BadWord D_BadWord ps_BadWord sp_BadWord) {I_BadPassage : Addr} {D_BadPassage : FuncData} {ps_BadPassage : List Str} {sp_BadPassage : Sp} (V_BadPassage : ErrV P w K mg base 1 "BadPassage" C_BadPassage I_BadPassage D_BadPassage ps_BadPassage sp_BadPassage) {I_BadCount : Addr} {D_BadCount : FuncData} {ps_BadCount : List Str} {sp_BadCount : Sp} (V_BadCount : ErrV P w K mg base 1 "BadCount" C_BadCount I_BadCount D_BadCount ps_BadCount sp_BadCount) {I_BadCut : Addr} {D_BadCut : FuncData} {ps_BadCut : List Str} {sp_BadCut : Sp} (V_BadCut : ErrV P w K mg base 1 "BadCut" C_BadCut I_BadCut D_BadCut ps_BadCut sp_BadCut) {I_BadSize : Addr} {D_BadSize : FuncData} {ps_BadSize : List Str} {sp_BadSize : Sp} (V_BadSize : ErrV P w K mg base 1 "BadSize" C_BadSize I_BadSize D_BadSize ps_BadSize sp_BadSize) {I_BadEdition : Addr} {D_BadEdition : FuncData} {ps_BadEdition : List Str} {sp_BadEdition : Sp} (V_BadEdition : ErrV P w K mg base 1 "BadEdition" C_BadEdition I_BadEdition D_BadEdition ps_BadEdition sp_BadEdition) {I_BadText : Addr} {D_BadText : FuncData} {ps_BadText : List Str} {sp_BadText : Sp} (V_BadText : ErrV P w K mg base 1 "BadText" C_BadText I_BadText D_BadText ps_BadText sp_BadText) {I_BadDeed : Addr} {D_BadDeed : FuncData} {ps_BadDeed : List Str} {sp_BadDeed : Sp} (V_BadDeed : ErrV P w K mg base 1 "BadDeed" C_BadDeed I_BadDeed D_BadDeed ps_BadDeed sp_BadDeed) {I_BadFault : Addr} {D_BadFault : FuncData} {ps_BadFault : List Str} {sp_BadFault : Sp} (V_BadFault : ErrV P w K mg base 1 "BadFault" C_BadFault I_BadFault D_BadFault ps_BadFault sp_BadFault) {I_BadKinds : Addr} {D_BadKinds : FuncData} {ps_BadKinds : List Str} {sp_BadKinds : Sp} (V_BadKinds : ErrV P w K mg base 1 "BadKinds" C_BadKinds I_BadKinds D_BadKinds ps_BadKinds sp_BadKinds) {I_TooMany : Addr} {D_TooMany : FuncData} {ps_TooMany : List Str} {sp_TooMany : Sp} (V_TooMany : ErrV P w K mg base 1 "TooMany" C_TooMany I_TooMany D_TooMany ps_TooMany sp_TooMany) {I_BadMark : Addr} {D_BadMark : FuncData} {ps_BadMark : List Str} {sp_BadMark : Sp} (V_BadMark : ErrV P w K mg base 1 "BadMark" C_BadMark I_BadMark D_BadMark ps_BadMark sp_BadMark) {I_BadJump : Addr} {D_BadJump : FuncData} {ps_BadJump : List Str} {sp_BadJump : Sp} (V_BadJump : ErrV P w K mg base 1 "BadJump" C_BadJump I_BadJump D_BadJump ps_BadJump sp_BadJump) {I_BadRule : Addr} {D_BadRule : FuncData} {ps_BadRule : List Str} {sp_BadRule : Sp} (V_BadRule : ErrV P w K mg base 1 "BadRule" C_BadRule I_BadRule D_BadRule ps_BadRule sp_BadRule) (T_OtherWork : ErrTxt K mg "OtherWork" C_OtherWork) (T_BadSetting : ErrTxt K mg "BadSetting" C_BadSetting) (T_Away : ErrTxt K mg "Away" C_Away) (T_LeafError : ErrTxt K mg "LeafError" C_LeafError) : FnOk P w K mg base CX0 1 f fd ["_law_e"] (spClasses K [C_BadWord, C_BadPassage, C_BadCount, C_BadCut, C_BadSize, C_BadEdition, C_BadText, C_BadDeed, C_BadFault, C_BadKinds, C_TooMany, C_BadMark, C_BadJump, C_BadRule, C_OtherWork, C_BadSetting, C_Away] C_LeafError) := by
  refine F.ok sc_classes (fun vs H Q E h => ?_) (fun cdv A outer s H vs Q E hr h => ?_)
  · obtain ⟨e, C, b, rfl, _⟩ := h
    rfl
  · obtain ⟨e, C, b, rfl, hx, I, hb, hL, hV, q⟩ := h
    refine ⟨_, (pss_cons (ps_set (i := 1) sc_classes.nd rfl (by first | exact Or.inl rfl | exact Or.inr rfl) (pe_lst (pa_cons (pe_callB call_isX (by rfl) T.b_isinstance (by decide +kernel) (pa_cons (pv 0) (pa_cons (pe_glob (v := .ref C_BadWord) rfl V_BadWord.g rfl) pa_nil))) (pa_cons (pe_callB call_isX (by rfl) T.b_isinstance (by decide +kernel) (pa_cons (pv 0) (pa_cons (pe_glob (v := .ref C_BadPassage) rfl V_BadPassage.g rfl) pa_nil))) (pa_cons (pe_callB call_isX (by rfl) T.b_isinstance (by decide +kernel) (pa_cons (pv 0) (pa_cons (pe_glob (v := .ref C_BadCount) rfl V_BadCount.g rfl) pa_nil))) (pa_cons (pe_callB call_isX (by rfl) T.b_isinstance (by decide +kernel) (pa_cons (pv 0) (pa_cons (pe_glob (v := .ref C_BadCut) rfl V_BadCut.g rfl) pa_nil))) pa_nil))))))
        (pss_cons (ps_set (i := 1) sc_classes.nd rfl (by first | exact Or.inl rfl | exact Or.inr rfl) (pe_op op_cat (pv 1) (pe_lst (pa_cons (pe_callB call_isX (by rfl) T.b_isinstance (by decide +kernel) (pa_cons (pv 0) (pa_cons (pe_glob (v := .ref C_BadSize) rfl V_BadSize.g rfl) pa_nil))) (pa_cons (pe_callB call_isX (by rfl) T.b_isinstance (by decide +kernel) (pa_cons (pv 0) (pa_cons (pe_glob (v := .ref C_BadEdition) rfl V_BadEdition.g rfl) pa_nil))) (pa_cons (pe_callB call_isX (by rfl) T.b_isinstance (by decide +kernel) (pa_cons (pv 0) (pa_cons (pe_glob (v := .ref C_BadText) rfl V_BadText.g rfl) pa_nil))) (pa_cons (pe_callB call_isX (by rfl) T.b_isinstance (by decide +kernel) (pa_cons (pv 0) (pa_cons (pe_glob (v := .ref C_BadDeed) rfl V_BadDeed.g rfl) pa_nil))) pa_nil)))))))
        (pss_cons (ps_set (i := 1) sc_classes.nd rfl (by first | exact Or.inl rfl | exact Or.inr rfl) (pe_op op_cat (pv 1) (pe_lst (pa_cons (pe_callB call_isX (by rfl) T.b_isinstance (by decide +kernel) (pa_cons (pv 0) (pa_cons (pe_glob (v := .ref C_BadFault) rfl V_BadFault.g rfl) pa_nil))) (pa_cons (pe_callB call_isX (by rfl) T.b_isinstance (by decide +kernel) (pa_cons (pv 0) (pa_cons (pe_glob (v := .ref C_BadKinds) rfl V_BadKinds.g rfl) pa_nil))) (pa_cons (pe_callB call_isX (by rfl) T.b_isinstance (by decide +kernel) (pa_cons (pv 0) (pa_cons (pe_glob (v := .ref C_TooMany) rfl V_TooMany.g rfl) pa_nil))) (pa_cons (pe_callB call_isX (by rfl) T.b_isinstance (by decide +kernel) (pa_cons (pv 0) (pa_cons (pe_glob (v := .ref C_BadMark) rfl V_BadMark.g rfl) pa_nil))) pa_nil)))))))
        (pss_cons (ps_set (i := 1) sc_classes.nd rfl (by first | exact Or.inl rfl | exact Or.inr rfl) (pe_op op_cat (pv 1) (pe_lst (pa_cons (pe_callB call_isX (by rfl) T.b_isinstance (by decide +kernel) (pa_cons (pv 0) (pa_cons (pe_glob (v := .ref C_BadJump) rfl V_BadJump.g rfl) pa_nil))) (pa_cons (pe_callB call_isX (by rfl) T.b_isinstance (by decide +kernel) (pa_cons (pv 0) (pa_cons (pe_glob (v := .ref C_BadRule) rfl V_BadRule.g rfl) pa_nil))) (pa_cons (pe_callB call_isX (by rfl) T.b_isinstance (by decide +kernel) (pa_cons (pv 0) (pa_cons (pe_glob (v := .ref C_OtherWork) rfl T_OtherWork.g rfl) pa_nil))) pa_nil))))))
        (pss_cons (ps_set (i := 1) sc_classes.nd rfl (by first | exact Or.inl rfl | exact Or.inr rfl) (pe_op op_cat (pv 1) (pe_lst (pa_cons (pe_callB call_isX (by rfl) T.b_isinstance (by decide +kernel) (pa_cons (pv 0) (pa_cons (pe_glob (v := .ref C_BadSetting) rfl T_BadSetting.g rfl) pa_nil))) (pa_cons (pe_callB call_isX (by rfl) T.b_isinstance (by decide +kernel) (pa_cons (pv 0) (pa_cons (pe_glob (v := .ref C_Away) rfl T_Away.g rfl) pa_nil))) pa_nil)))))
        (pss_one (ps_ret (pe_op op_cat (pv 1) (pe_lst (pa_cons (pe_callB call_isX (by rfl) T.b_isinstance (by decide +kernel) (pa_cons (pv 0) (pa_cons (pe_glob (v := .ref C_LeafError) rfl T_LeafError.g rfl) pa_nil))) (pa_cons (pe_callB call_isX (by rfl) T.b_isinstance (by decide +kernel) (pa_cons (pv 0) (pa_cons (pe_bltn (v := .ty "ValueError") (u := .type "ValueError") (by rfl) TV.b (by decide +kernel) rfl) pa_nil))) pa_nil))))))))))), ?_⟩
    have x0 := Ex.refl H
    refine q_asgL (el_lst (ea_cons (ev_isx (ev_var rfl) (.own _) I (hx.ex x0) (hb 0 _ rfl)) (ea_cons (ev_isx (ev_var rfl) (.own _) I (hx.ex x0) (hb 1 _ rfl)) (ea_cons (ev_isx (ev_var rfl) (.own _) I (hx.ex x0) (hb 2 _ rfl)) (ea_cons (ev_isx (ev_var rfl) (.own _) I (hx.ex x0) (hb 3 _ rfl)) ea_nil)))) (by show 4 ≤ 100000; decide)) fun p1 H1 n1 e1 h1 => ?_
    have x1 := Ex.trans x0 e1
    refine q_asgL (el_catV (ev_var rfl) h1 (el_lst (ea_cons (ev_isx (ev_var rfl) (.own _) I (hx.ex x1) (hb 4 _ rfl)) (ea_cons (ev_isx (ev_var rfl) (.own _) I (hx.ex x1) (hb 5 _ rfl)) (ea_cons (ev_isx (ev_var rfl) (.own _) I (hx.ex x1) (hb 6 _ rfl)) (ea_cons (ev_isx (ev_var rfl) (.own _) I (hx.ex x1) (hb 7 _ rfl)) ea_nil)))) (by show 4 ≤ 100000; decide)) (by show 4 + 4 ≤ 100000; decide)) fun p2 H2 n2 e2 h2 => ?_
    have x2 := Ex.trans x1 e2
    refine q_asgL (el_catV (ev_var rfl) h2 (el_lst (ea_cons (ev_isx (ev_var rfl) (.own _) I (hx.ex x2) (hb 8 _ rfl)) (ea_cons (ev_isx (ev_var rfl) (.own _) I (hx.ex x2) (hb 9 _ rfl)) (ea_cons (ev_isx (ev_var rfl) (.own _) I (hx.ex x2) (hb 10 _ rfl)) (ea_cons (ev_isx (ev_var rfl) (.own _) I (hx.ex x2) (hb 11 _ rfl)) ea_nil)))) (by show 4 ≤ 100000; decide)) (by show 8 + 4 ≤ 100000; decide)) fun p3 H3 n3 e3 h3 => ?_
    have x3 := Ex.trans x2 e3
    refine q_asgL (el_catV (ev_var rfl) h3 (el_lst (ea_cons (ev_isx (ev_var rfl) (.own _) I (hx.ex x3) (hb 12 _ rfl)) (ea_cons (ev_isx (ev_var rfl) (.own _) I (hx.ex x3) (hb 13 _ rfl)) (ea_cons (ev_isx (ev_var rfl) (.own _) I (hx.ex x3) (hb 14 _ rfl)) ea_nil))) (by show 3 ≤ 100000; decide)) (by show 12 + 3 ≤ 100000; decide)) fun p4 H4 n4 e4 h4 => ?_
    have x4 := Ex.trans x3 e4
    refine q_asgL (el_catV (ev_var rfl) h4 (el_lst (ea_cons (ev_isx (ev_var rfl) (.own _) I (hx.ex x4) (hb 15 _ rfl)) (ea_cons (ev_isx (ev_var rfl) (.own _) I (hx.ex x4) (hb 16 _ rfl)) ea_nil)) (by show 2 ≤ 100000; decide)) (by show 15 + 2 ≤ 100000; decide)) fun p5 H5 n5 e5 h5 => ?_
    have x5 := Ex.trans x4 e5
    exact s_retL (el_catV (ev_var rfl) h5 (el_lst (ea_cons (ev_isx (ev_var rfl) (.own _) I (hx.ex x5) hL) (ea_cons (ev_isx (ev_var rfl) (.ty _) I (hx.ex x5) hV) ea_nil)) (by show 2 ≤ 100000; decide)) (by show 17 + 2 ≤ 100000; decide)) fun p6 H6 n6 e6 h6 => q p6 H6 (fresh_back x5 n6) (Ex.trans x5 e6) h6
/-! ### what is changed -/
def more1 : Str := "more"
def spChanged : Sp := fun vs H Q _ => ∃ x : V, vs = [x] ∧ ((flt x ∧ ∀ H', Ex H H' → Q .non H') ∨ (∃ a xs, x = .ref a ∧ H a = some (.tup xs) ∧ ∀ H', Ex H H' → Q .non H') ∨ (∃ a xs, x = .ref a ∧ H a = some (.lst xs) ∧ xs.length ≤ 1000 ∧ ∀ H1 H', Ex H H1 → Ex (upd H1 a (.lst (xs ++ [.str more1]))) H' → Q .non H') ∨
  ∃ a kvs, x = .ref a ∧ H a = some (.dK kvs) ∧ kvs.length ≤ 1000 ∧ ∀ H1, Ex H H1 → Q .non (upd H1 a (.dK (putK kvs (.inr more1) (.int 1)))))
abbrev s_changed : Stmt := top 29
theorem sc_changed : FnScope ["_law_x"] ["_law_x"] (defScope s_changed) := ⟨rfl, rfl, rfl, by decide +kernel, rfl, by decide +kernel, by decide +kernel⟩
theorem ok_changed (F : L2.Fun K "_law_changed" "_law_changed" s_changed f fd) (T : Blt mg) (TV : BltV mg) : FnOk P w K mg base CX0 1 f fd ["_law_x"] spChanged := by
  refine F.ok sc_changed (fun vs H Q E h => ?_) (fun cdv A outer s H vs Q E hr h => ?_)
  · obtain ⟨x, rfl, _⟩ := h
    rfl
  · obtain ⟨x, rfl, h⟩ := h
    refine ⟨_, (pss_cons (ps_if (pt_val (pe_callB call_isi (by rfl) T.b_isinstance (by decide +kernel) (pa_cons (pv 0) (pa_cons (pe_bltn (v := .ty "list") (u := .type "list") (by rfl) T.b_list (by decide +kernel) rfl) pa_nil)))) (pss_one (ps_expr (pe_bm PySem.F.plainAttrs_list PySem.F.slot_list_append PySem.F.type_list_append mt_append (pv 0) (pa_cons pe_str pa_nil)))) pss_nil)
        (pss_one (ps_if (pt_val (pe_callB call_isi (by rfl) T.b_isinstance (by decide +kernel) (pa_cons (pv 0) (pa_cons (pe_bltn (v := .ty "dict") (u := .type "dict") (by rfl) TV.d (by decide +kernel) rfl) pa_nil)))) (pss_one (ps_dput (Nat.lt_of_le_of_lt (Nat.add_le_add_left (by decide) _) hr.units) (pv 0) pe_str pe_int rfl)) pss_nil))), ?_⟩
    rcases h with ⟨hf, q⟩ | ⟨a, xs, rfl, ha, q⟩ | ⟨a, xs, rfl, ha, hl, q⟩ | ⟨a, kvs, rfl, ha, hl, q⟩
    · rcases hf with ⟨i, rfl⟩ | ⟨i, rfl⟩ | ⟨i, rfl⟩ | rfl
      · exact q_when (et_B (ev_isi (b := false) (ev_var rfl) (.ty _) (fun _ _ => .base (.int i)) (kit_ty (by decide +kernel)))) (fun z => nomatch z) fun _ H1 e1 => s_when (et_B (ev_isi (b := false) (ev_var rfl) (.ty _) (fun _ _ => .base (.int i)) (kit_ty (by decide +kernel)))) (fun z => nomatch z) fun _ H2 e2 => q H2 (Ex.trans e1 e2)
      · exact q_when (et_B (ev_isi (b := false) (ev_var rfl) (.ty _) (fun _ _ => .base (.bl i)) (kit_ty (by decide +kernel)))) (fun z => nomatch z) fun _ H1 e1 => s_when (et_B (ev_isi (b := false) (ev_var rfl) (.ty _) (fun _ _ => .base (.bl i)) (kit_ty (by decide +kernel)))) (fun z => nomatch z) fun _ H2 e2 => q H2 (Ex.trans e1 e2)
      · exact q_when (et_B (ev_isi (b := false) (ev_var rfl) (.ty _) (fun _ _ => .base (.str i)) (kit_ty (by decide +kernel)))) (fun z => nomatch z) fun _ H1 e1 => s_when (et_B (ev_isi (b := false) (ev_var rfl) (.ty _) (fun _ _ => .base (.str i)) (kit_ty (by decide +kernel)))) (fun z => nomatch z) fun _ H2 e2 => q H2 (Ex.trans e1 e2)
      · exact q_when (et_B (ev_isi (b := false) (ev_var rfl) (.ty _) (fun _ _ => .base .non) (kit_ty (by decide +kernel)))) (fun z => nomatch z) fun _ H1 e1 => s_when (et_B (ev_isi (b := false) (ev_var rfl) (.ty _) (fun _ _ => .base .non) (kit_ty (by decide +kernel)))) (fun z => nomatch z) fun _ H2 e2 => q H2 (Ex.trans e1 e2)
    · exact q_when (et_B (ev_isi (b := false) (ev_var rfl) (.ty _) (fun H1 e => .base (.tup (e _ _ ha))) (kit_ty (by decide +kernel)))) (fun z => nomatch z) fun _ H1 e1 => s_when (et_B (ev_isi (b := false) (ev_var rfl) (.ty _) (fun H2 e => .base (.tup (e _ _ (e1 _ _ ha)))) (kit_ty (by decide +kernel)))) (fun z => nomatch z) fun _ H2 e2 => q H2 (Ex.trans e1 e2)
    · exact q_when (et_B (ev_isi (b := true) (ev_var rfl) (.ty _) (fun H1 e => .base (.lst (e _ _ ha))) (kit_ty (by decide +kernel)))) (fun _ H1 e1 => s_app (e1 _ _ ha) (ev_var rfl) ev_c (by omega) fun H2 e2 => s_when (et_B (ev_isi (b := false) (ev_var rfl) (.ty _) (fun H3 e => .base (.lst (e _ _ upd_same))) (kit_ty (by decide +kernel)))) (fun z => nomatch z) fun _ H3 e3 => q H2 H3 (Ex.trans e1 e2) e3) fun z => nomatch z
    · refine q_when (et_B (ev_isi (b := false) (ev_var rfl) (.ty _) (fun H1 e => .base (.dK (e _ _ ha))) (kit_ty (by decide +kernel)))) (fun z => nomatch z) fun _ H1 e1 => s_when (et_B (ev_isi (b := true) (ev_var rfl) (.ty _) (fun H2 e => .base (.dK (e _ _ (e1 _ _ ha)))) (kit_ty (by decide +kernel)))) (fun _ H2 e2 => ?_) fun z => nomatch z
      exact ⟨_, rfl, a, _, rfl, DPut.k (k := .inr more1) (e2 _ _ (e1 _ _ ha)) (by rw [sizeLine_eq]; omega), q H2 (Ex.trans e1 e2)⟩
end
end Lm

namespace Lm
open PySem L2 Evl RZ
/-! ### any object, of depth below d, of objects of B -/
def An (B : Addr → Prop) : Nat → Hp → V → Prop
  | 0 => fun _ x => flt x
  | d + 1 => fun H x => flt x ∨ (∃ a xs, x = .ref a ∧ B a ∧ (H a = some (.lst xs) ∨ H a = some (.tup xs)) ∧ xs.length ≤ 10 ∧ ∀ y ∈ xs, An B d H y) ∨ ∃ a ks, x = .ref a ∧ B a ∧ H a = some (.dK ks) ∧ (ks.map (·.1)).Nodup ∧ ks.length ≤ 10
/-- the same; what is in it is not itself -/
def AnT (B : Addr → Prop) : Nat → Hp → V → Prop
  | 0 => fun _ x => flt x
  | d + 1 => fun H x => flt x ∨ (∃ a xs, x = .ref a ∧ B a ∧ (H a = some (.lst xs) ∨ H a = some (.tup xs)) ∧ xs.length ≤ 10 ∧ ∀ y ∈ xs, An (fun b => B b ∧ b ≠ a) d H y) ∨ ∃ a ks, x = .ref a ∧ B a ∧ H a = some (.dK ks) ∧ (ks.map (·.1)).Nodup ∧ ks.length ≤ 10
theorem An.mono {H H' : Hp} {B B' : Addr → Prop} (e : ∀ a o, B a → H a = some o → (∀ ps, o ≠ .tbl ps) → B' a ∧ H' a = some o) : ∀ {d : Nat} {x : V}, An B d H x → An B' d H' x
  | 0, _, h => h
  | d + 1, x, h => by
    rcases h with h | ⟨a, xs, rfl, hb, h, hl, k⟩ | ⟨a, ks, rfl, hb, h, hn, hl⟩
    · exact .inl h
    · rcases h with h | h
      · obtain ⟨q1, q2⟩ := e a _ hb h (fun _ z => by cases z)
        exact .inr (.inl ⟨a, xs, rfl, q1, .inl q2, hl, fun y hy => An.mono e (k y hy)⟩)
      · obtain ⟨q1, q2⟩ := e a _ hb h (fun _ z => by cases z)
        exact .inr (.inl ⟨a, xs, rfl, q1, .inr q2, hl, fun y hy => An.mono e (k y hy)⟩)
    · obtain ⟨q1, q2⟩ := e a _ hb h (fun _ z => by cases z)
      exact .inr (.inr ⟨a, ks, rfl, q1, q2, hn, hl⟩)
theorem AnT.an {H : Hp} {B : Addr → Prop} : ∀ {d : Nat} {x : V}, AnT B d H x → An B d H x
  | 0, _, h => h
  | d + 1, x, h => by
    rcases h with h | ⟨a, xs, rfl, hb, h, hl, k⟩ | ⟨a, ks, rfl, hb, h, hn, hl⟩
    · exact .inl h
    · exact .inr (.inl ⟨a, xs, rfl, hb, h, hl, fun y hy => An.mono (fun a o hb ha _ => ⟨hb.1, ha⟩) (k y hy)⟩)
    · exact .inr (.inr ⟨a, ks, rfl, hb, h, hn, hl⟩)
theorem An.same {H : Hp} {B : Addr → Prop} : ∀ {d : Nat} {x : V}, An B d H x → SameV H (d + 1) x x
  | 0, _, h => flt.same h
  | d + 1, x, h => by
    rcases h with h | ⟨a, xs, rfl, hb, h, hl, k⟩ | ⟨a, ks, rfl, hb, h, hn, hl⟩
    · exact flt.same h
    · have key : ∀ (i : Nat) u v, xs[i]? = some u → xs[i]? = some v → SameV H (d + 1) u v := fun i u v q1 q2 => by
        rw [q1] at q2
        cases (Option.some.inj q2)
        exact An.same (k u (List.mem_of_getElem? q1))
      rcases h with h | h
      · exact .lst h h rfl (by omega) key
      · exact .tup h h rfl (by omega) key
    · exact .dct h hn
theorem flt_str (z : Str) : flt (.str z) := .inr (.inr (.inl ⟨z, rfl⟩))
theorem putK_nodup {ks : List (Key × V)} {k : Key} {v : V} (h : (ks.map (·.1)).Nodup) : ((putK ks k v).map (·.1)).Nodup := by
  unfold putK
  split
  · have e : (ks.map (fun kv => if kv.1 = k then (kv.1, v) else kv)).map (·.1) = ks.map (·.1) := by
      rw [List.map_map]
      refine List.map_congr_left fun p _ => ?_
      show (if p.1 = k then (p.1, v) else p).1 = p.1
      split <;> rfl
    rw [e]
    exact h
  · rename_i hn
    rw [List.map_append, List.nodup_append]
    refine ⟨h, by simp, fun a ha b hb z => ?_⟩
    rw [List.map_cons, List.map_nil, List.mem_singleton] at hb
    subst hb
    obtain ⟨p, hp, rfl⟩ := List.mem_map.mp ha
    exact hn (List.any_eq_true.mpr ⟨p, hp, decide_eq_true z⟩)
theorem mergeK_nodup : ∀ (more ks : List (Key × V)), (ks.map (·.1)).Nodup → ((mergeK ks more).map (·.1)).Nodup
  | [], ks, h => h
  | p :: r, ks, h => mergeK_nodup r (putK ks p.1 p.2) (putK_nodup h)
def rDictP (K : PySem.W.Frag) : List V → Hp → VK → Prop := fun xs H Q => ∃ (a : Addr) (ps : List Addr) (kvs : List (Key × V)), xs = [.ref a] ∧ SqL K H a (ps.map V.ref) ∧ Paired (fun p kv => SqT K H p [kV kv.1, kv.2]) ps kvs ∧
    ∀ p, H p = none → Q (.ref p) (upd H p (.dK (mergeK [] kvs)))
section
variable {K : PySem.W.Frag} {σ : L2.St} {H : Hp}
theorem te_cb1 {r : List V → Hp → VK → Prop} {ta : TE} {Q : List V → Hp → Prop} (h : ta σ H fun x H1 => r [x] H1 fun v H2 => Q [v] H2) : tCons (tCB r (tCons ta tNil)) tNil σ H Q := h
theorem q_asgC {sp : Sp} {ta : TA} {xs : List V} {i : Nat} {tz : TS} {D : Ends} (h : EvA ta σ H xs) (k : ∀ H1, Ex H H1 → sp xs H1 (fun v H2 => tz D (σ.set i (some v)) H2) E0) : tSeq (tAsg (tCall sp [] E0 ta) (gName i)) tz D σ H := h H (Ex.refl _) _ fun H1 e1 => by
  have q := k H1 e1
  show sp (xs ++ []) H1 _ _
  rw [List.append_nil]
  exact q
theorem el_pairs {a : Addr} {vs : List V} {ta : TE} {i j : Nat} {Q : VK} (ha : Ev ta σ H (.ref a)) (hx : H a = some (.lst vs)) (hl : vs.length ≤ 100) (hw : ∀ x y, wipe (((wipe σ [i, j]).set i (some x)).set j (some y)) [i, j] = wipe σ [i, j])
    (hi : ∀ x y : V, (((wipe σ [i, j]).set i (some x)).set j (some y))[i]? = some (some x)) (hj : ∀ x y : V, (((wipe σ [i, j]).set i (some x)).set j (some y))[j]? = some (some y))
    (k : ∀ l ps kvs H2, Ex H H2 → H2 l = some (.lst (ps.map V.ref)) → Paired (fun p (kv : Key × V) => SqT K H2 p [kV kv.1, kv.2]) ps kvs → kvs.length = vs.length → Q (.ref l) H2) :
    tLc (iEnumA K (tCons ta tNil)) (gTup K 2 (gCons (gName i) (gCons (gName j) gNil))) tYes (tTup (tCons (tCB rStrO (tCons (tVar i) tNil)) (tCons (tVar j) tNil))) [i, j] σ H Q := ha H (Ex.refl _) _ fun H1 e1 => by
  refine ⟨a, vs, rfl, .inl ⟨sq_of (e1 _ _ hx), fun D hD => lc_it walk_enum (fun n H' => Ex H1 H' ∧ ∃ (ps : List Addr) (kvs : List (Key × V)), kvs.length = n ∧ H' D = some (.lst (ps.map V.ref)) ∧ Paired (fun p kv => H' p = some (.tup [kV kv.1, kv.2])) ps kvs) ⟨Ex.new hD, [], [], rfl, upd_same, .nil⟩ (fun n H' _ p => sq_of ((Ex.trans e1 p.1) _ _ hx)) (fun n v' Hn Hn' hn p y => ?_) (fun H' p => ?_)⟩⟩
  · obtain ⟨T', x, y, rfl, nT, rfl, hx1, hy1⟩ := y
    cases (Option.some.inj hx1)
    obtain ⟨p1, ps, kvs, hlen, hD1, hp⟩ := p
    refine ⟨T', _, rfl, SqT.of upd_same, rfl, _, _, rfl, _, _, rfl, rfl, hw _ _, ?_⟩
    have x1 := Ex.new nT (o := .tup [.int (n : Nat), y])
    refine ⟨_, hi _ _, .inl ⟨(n : Int), rfl, by have : n.log2 ≤ n := Nat.log2_le_self n; show n.log2 < 1920; omega, ⟨_, hj _ _, by show 2 ≤ sizeLine; decide, fun t nt => ?_⟩⟩⟩
    have x2 := Ex.trans x1 (Ex.new nt (o := .tup [.str (toString (n : Int)), y]))
    have hD2 := x2 _ _ hD1
    have hpl : ps.length = n := by rw [hp.length]; exact hlen
    refine ⟨_, hD2, sz_of (by rw [List.length_map]; omega), Ex.mut (Ex.trans p1 x2) hD, ps ++ [t], kvs ++ [(.inr (toString (n : Int)), y)], by simp [hlen], by rw [upd_same, List.map_append]; rfl, ?_⟩
    have ntD : t ≠ D := fun z => by
      have h := x1 _ _ hD1
      rw [← z, nt] at h
      cases h
    refine PySem.Paired.snoc (paired_imp (fun p kv h => ?_) hp) ?_
    · have h2 := x2 _ _ h
      rw [upd_ne (fun z => by rw [z, hD1] at h; cases h)]
      exact h2
    · rw [upd_ne ntD]
      exact upd_same
  · obtain ⟨p1, ps, kvs, hlen, hD1, hp⟩ := p
    exact k D ps kvs H' (Ex.trans e1 p1) hD1 (paired_imp (fun p kv h => SqT.of h) hp) hlen
end
section
variable {P : Program} {w : World} {K : PySem.W.Frag} {mg : Str → Option Value} {base : Heap} {f : Addr} {fd : FuncData}
def spAny : Nat → Sp
  | 0 => fun _ _ _ _ => False
  | d + 1 => fun vs H Q _ => ∃ st c : Addr, vs = [.ref st, .int (d : Nat)] ∧ StAt H st c ∧ ∀ v H', StAt H' st c → Kp st H H' → AnT (fun a => H a = none) d H' v → Q v H'
abbrev s_any : Stmt := top 25
theorem sc_any : FnScope ["_law_state", "_law_deep", "_law_way", "_law_some", "_law_k", "_law_x"] ["_law_state", "_law_deep"] (defScope s_any) := ⟨rfl, rfl, rfl, by decide +kernel, rfl, by decide +kernel, by decide +kernel⟩
theorem ok_any {d k : Nat} {fT fO fA : Addr} {dT dO dA : FuncData} (F : L2.Fun K "_law_any" "_law_any" s_any f fd) (T : Blt mg) (TV : BltV mg) (D_take : DefOk P w K mg base 2 "_law_take" fT dT ["_law_state", "_law_many"] spTake) (D_one : DefOk P w K mg base 3 "_law_one" fO dO ["_law_state", "_law_things"] (spOneA K))
    (D_any : DefOk P w K mg base k "_law_any" fA dA ["_law_state", "_law_deep"] (spAny d)) : FnOk P w K mg base CX0 (k + 4) f fd ["_law_state", "_law_deep"] (spAny (d + 1)) := by
  refine F.ok sc_any (fun vs H Q E h => ?_) (fun cdv A outer s H vs Q E hr h => ?_)
  · obtain ⟨st, c, rfl, _⟩ := h
    rfl
  · obtain ⟨st, c, rfl, S, q⟩ := h
    have D_room : Room k _ := hr.mono (by omega)
    refine ⟨_, (pss_cons (ps_set (i := 2) sc_any.nd rfl (by first | exact Or.inl rfl | exact Or.inr rfl) (pe_d D_take (hr.mono (by omega)) (pa_cons (pv 0) (pa_cons (pe_ifExp (pt_cmpR op_gt (pv 1) pe_int (nomark _)) pe_int pe_int) pa_nil))))
        (pss_cons (ps_if (pt_cmpR op_lt (pv 2) pe_int (nomark _)) (pss_one (ps_ret (pe_ix ix_list (pe_lst (pa_cons (pe_op op_sub (pe_d D_take (hr.mono (by omega)) (pa_cons (pv 0) (pa_cons (pe_op op_pow pe_int pe_int) pa_nil))) pe_int) (pa_cons pe_bl (pa_cons pe_bl (pa_cons pe_non (pa_cons (pe_d D_one (hr.mono (by omega)) (pa_cons (pv 0) (pa_cons (pe_tup (pa_cons pe_str (pa_cons pe_str (pa_cons pe_str (pa_cons pe_str pa_nil))))) pa_nil))) pa_nil)))))) (pv 2) (fun _ _ => rfl)))) pss_nil)
        (pss_cons (ps_setLc (i := 3) (own := [("_law_k", 4)]) (g := gName 4) (tt := tYes) (te := (tCall (spAny d) [] E0 (tCons (tVar 0) (tCons (tOp (rI0 fun i j => .int (i - j)) (tVar 1) (tC (.int 1))) tNil)))) rfl sc_any.nd rfl rfl (sw_true rfl rfl rfl (by decide +kernel)) (pi_range1 rfl T.b_range (pa_cons (pe_d D_take (hr.mono (by omega)) (pa_cons (pv 0) (pa_cons pe_int pa_nil))) pa_nil)) (blkOk_by (own := [("_law_k", 4)]) (by kernel_rfl)) (fun _ _ _ _ _ => (pg_name (i := 4) sc_any.nd rfl (by first | exact Or.inl rfl | exact Or.inr rfl))) (fun _ _ _ _ _ => pts_nil) (fun _ _ _ _ _ => by exact (pe_d D_any D_room (pa_cons (pv 0) (pa_cons (pe_op op_sub (pv 1) pe_int) pa_nil)))))
        (pss_one (ps_ret (pe_ix ix_list (pe_lst (by exact (pa_cons (pe_callTy call_tuple_of (by rfl) T.b_tuple (by decide +kernel) (pa_cons (pv 3) pa_nil)) (pa_cons (pv 3) (pa_cons (pe_callTy (call_dictP rfl) (by rfl) TV.d (by decide +kernel) (by exact (pa_cons (pe_lc (own := [("_law_k", 4), ("_law_x", 5)]) (g := gTup K 2 (gCons (gName 4) (gCons (gName 5) gNil))) (tt := tYes) (te := (tTup (tCons (tCB rStrO (tCons (tVar 4) tNil)) (tCons (tVar 5) tNil)))) rfl sc_any.nd (pi_enumA rfl T.b_enumerate (pa_cons (pv 3) pa_nil)) (blkOk_by (own := [("_law_k", 4), ("_law_x", 5)]) (by kernel_rfl)) (fun _ _ _ _ _ => (pg_tup rfl (pgs_cons (pg_name (i := 4) sc_any.nd rfl (by first | exact Or.inl rfl | exact Or.inr rfl)) (pgs_cons (pg_name (i := 5) sc_any.nd rfl (by first | exact Or.inl rfl | exact Or.inr rfl)) pgs_nil)))) (fun _ _ _ _ _ => pts_nil) (fun _ _ _ _ _ => by exact (pe_tup (pa_cons (pe_callTy call_strO (by rfl) T.b_str (by decide +kernel) (pa_cons (pv 4) pa_nil)) (pa_cons (pv 5) pa_nil))))) pa_nil))) pa_nil))))) (pe_op op_sub (pv 2) pe_int) (fun _ _ => rfl))))))), ?_⟩
    have hm : Ev (tIf (tTest (tOp (rI0 fun i j => .bl (decide (j < i))) (tVar 1) (tC (.int 0)))) (tC (.int 8)) (tC (.int 5))) [some (.ref st), some (.int (d : Nat)), none, none, none, none] H (.int (if 0 < d then 8 else 5)) := fun H1 e1 Q k => te_if (b := decide (0 < d)) (et_is (et_test (ev_op (ev_var rfl) ev_c rv_I0)) (by by_cases z : 0 < d <;> simp [z])) (fun h H2 e2 => by
      have := k H2 e2
      rw [if_pos (of_decide_eq_true h)] at this
      exact this) (fun h H2 e2 => by
      have := k H2 e2
      rw [if_neg (of_decide_eq_false h)] at this
      exact this)
    refine q_asgC (ea_cons (ev_var rfl) (ea_cons hm ea_nil)) fun H1 e1 => ?_
    have m0 : (0 : Int) < (if 0 < d then 8 else 5) := by split <;> decide
    have m1 : (if 0 < d then 8 else 5 : Int) < 1073741824 := by split <;> decide
    refine ⟨st, c, _, rfl, S.same e1, m0, m1, fun w H2 w0 w1 S2 e2 => ?_⟩
    have k2 : Kp st H H2 := (Kp.of e1).trans e2
    refine q_when (b := decide (w < 5)) (et_test (ev_op (ev_var rfl) ev_c rv_I0)) (fun h5 H3 e3 => ?_) fun h5 H3 e3 => ?_
    · have h5 : w < 5 := of_decide_eq_true h5
      have S3 := S2.same e3
      have k3 : Kp st H H3 := k2.trans (Kp.of e3)
      refine ⟨_, rfl, 10, 9, rfl, rfl, ⟨by decide, by decide, by decide⟩, st, c, (10 : Int) ^ (9 : Int).toNat, rfl, S3, by decide, by decide, fun w2 H4 a b S4 e4 => ⟨w2, 5, rfl, rfl, ?_⟩⟩
      have k4 := k3.trans e4
      refine ⟨_, rfl, by show 4 ≤ sizeLine; decide, fun t nt => ?_⟩
      have x5 := Ex.new nt (o := .tup [.str "", .str "a", .str "read", .str "Bad"])
      refine ⟨st, c, t, [.str "", .str "a", .str "read", .str "Bad"], rfl, S4.same x5, (S4.of_new nt).1, .inr (SqT.of upd_same), by decide, by decide, fun v H5 hv S5 e5 => ?_⟩
      have k5 : Kp st H H5 := k4.trans ((Kp.of x5).trans e5)
      refine ⟨by show 5 ≤ sizeLine; decide, fun l nl => ⟨_, rfl, ?_⟩⟩
      have x6 := Ex.new nl (o := .lst [.int (w2 - 5), .bl true, .bl false, .non, v])
      obtain ⟨n, rfl⟩ : ∃ n : Nat, w = (n : Int) := ⟨w.toNat, by omega⟩
      have hn : n < 5 := by omega
      have fv : flt v := by
        rcases List.mem_cons.mp hv with rfl | hv
        · exact flt_str _
        rcases List.mem_cons.mp hv with rfl | hv
        · exact flt_str _
        rcases List.mem_cons.mp hv with rfl | hv
        · exact flt_str _
        rcases List.mem_cons.mp hv with rfl | hv
        · exact flt_str _
        · cases hv
      obtain ⟨u, hu, fu⟩ : ∃ u, ([.int (w2 - 5), .bl true, .bl false, .non, v] : List V)[n]? = some u ∧ flt u := by
        rcases (by omega : n = 0 ∨ n = 1 ∨ n = 2 ∨ n = 3 ∨ n = 4) with rfl | rfl | rfl | rfl | rfl
        · exact ⟨_, rfl, .inl ⟨_, rfl⟩⟩
        · exact ⟨_, rfl, .inr (.inl ⟨_, rfl⟩)⟩
        · exact ⟨_, rfl, .inr (.inl ⟨_, rfl⟩)⟩
        · exact ⟨_, rfl, .inr (.inr (.inr rfl))⟩
        · exact ⟨_, rfl, fv⟩
      refine ⟨l, _, _, u, rfl, rfl, SqL.of upd_same, atI_n1 hu, q u _ (S5.same x6) (k5.trans (Kp.of x6)) ?_⟩
      cases d with
      | zero => exact fu
      | succ d => exact .inl fu
    · have h5 : ¬ w < 5 := of_decide_eq_false h5
      cases d with
      | zero => exact absurd w1 (by rw [if_neg (by decide)]; omega)
      | succ d =>
      have w8 : w < 8 := by rw [if_pos (Nat.succ_pos d)] at w1; exact w1
      have S3 := S2.same e3
      have k3 : Kp st H H3 := k2.trans (Kp.of e3)
      refine ⟨_, rfl, st, c, _, rfl, S3, by decide, by decide, fun n' H4 n0 n1 S4 e4 => ?_⟩
      have k4 := k3.trans e4
      obtain ⟨n, rfl⟩ : ∃ n : Nat, n' = (n : Int) := ⟨n'.toNat, by omega⟩
      refine ⟨_, rfl, by omega, by omega, fun D nD => ?_⟩
      have nDH : H D = none := kp_back S4 k4 nD
      have hDs := (S4.of_new nD).1
      refine lc_drawR (c := c) (st := st) (n := ((n : Int)).toNat) (fun i v H' => An (fun b => H b = none ∧ b ≠ st ∧ b ≠ D) d H' v) S4 nD (by omega) (fun i v H2 H3 h e => An.mono (fun a o hb ha hn => ⟨hb, e.lst hb.2.1 hb.2.2 ha⟩) h) ?_ ?_
      · rintro i H' hi S' e ⟨acc, hD⟩ Q' kQ
        refine ⟨_, rfl, ⟨_, rfl, ⟨_, _, rfl, rfl, ?_⟩⟩⟩
        refine ⟨st, c, by show ([V.ref st, V.int (((d + 1 : Nat) : Int) - 1)] : List V) = _; rw [show (((d + 1 : Nat) : Int) - 1) = (d : Int) from by omega], S', fun v H2 S2 e2 hA => kQ v H2 (An.mono (fun a o hb ha hn => ⟨⟨kp_back S' (k4.trans e) hb, (S'.of_new hb).1, fun z => by rw [z, hD] at hb; cases hb⟩, ha⟩) hA.an) S2 e2⟩
      · rintro vs H' hl hv S' e hD
        have hn : vs.length ≤ 3 := by omega
        have k5 : Kp st H H' := k4.trans e
        have hA : ∀ y ∈ vs, An (fun b => H b = none ∧ b ≠ st ∧ b ≠ D) d H' y := fun y hy => by
          obtain ⟨i, hi, rfl⟩ := List.mem_iff_getElem.mp hy
          exact hv i _ (List.getElem?_eq_getElem hi)
        refine ⟨_, rfl, D, vs, rfl, .inl ⟨SqL.of hD, fun t nt => ⟨_, rfl, ?_⟩⟩⟩
        have x1 := Ex.new nt (o := .tup vs)
        have mp := fun (Q : VK) => el_pairs (K := K) (σ := [some (.ref st), some (.int ((d + 1 : Nat) : Int)), some (.int w), some (.ref D), none, none]) (H := upd H' t (.tup vs)) (i := 4) (j := 5) (a := D) (vs := vs) (Q := Q) (ta := tVar 3) (ev_var rfl) (x1 _ _ hD) (by omega) (fun _ _ => rfl) (fun _ _ => rfl) (fun _ _ => rfl)
        dsimp only
        refine te_cb1 (mp _ fun l ps kvs H2 x2 hl2 hps hkl => ⟨l, ps, kvs, rfl, SqL.of hl2, hps, fun p np => ⟨by show 3 ≤ sizeLine; decide, fun L nL => ⟨_, rfl, _, _, rfl, rfl, ?_⟩⟩⟩)
        have x3 := Ex.new np (o := .dK (mergeK [] kvs))
        have x4 := Ex.new nL (o := .lst [.ref t, .ref D, .ref p])
        have X := Ex.trans x1 (Ex.trans x2 (Ex.trans x3 x4))
        have Sf := S'.same X
        have kf := k5.trans (Kp.of X)
        have ntH : H t = none := kp_back S' k5 nt
        have npH : H p = none := kp_back (S'.same (Ex.trans x1 x2)) (k5.trans (Kp.of (Ex.trans x1 x2))) np
        have dk := x4 _ _ (upd_same : (upd H2 p (.dK (mergeK [] kvs))) p = some (.dK (mergeK [] kvs)))
        have hml : (mergeK [] kvs).length ≤ 10 := Nat.le_trans (length_mergeK kvs []) (by rw [hkl]; show 0 + vs.length ≤ 10; omega)
        have hmn : ((mergeK [] kvs).map (·.1)).Nodup := mergeK_nodup kvs [] List.nodup_nil
        have ht := Ex.trans x2 (Ex.trans x3 x4) _ _ (upd_same : (upd H' t (.tup vs)) t = some (.tup vs))
        have hDf := X _ _ hD
        rcases (by omega : w = 5 ∨ w = 6 ∨ w = 7) with rfl | rfl | rfl
        · exact ⟨L, _, _, .ref t, rfl, rfl, SqL.of upd_same, atI_n1 (n := 0) rfl, q _ _ Sf kf (.inr (.inl ⟨t, vs, rfl, ntH, .inr ht, by omega, fun y hy => An.mono (fun a o hb ha _ => ⟨⟨hb.1, fun z => by rw [z, nt] at ha; cases ha⟩, X _ _ ha⟩) (hA y hy)⟩))⟩
        · exact ⟨L, _, _, .ref D, rfl, rfl, SqL.of upd_same, atI_n1 (n := 1) rfl, q _ _ Sf kf (.inr (.inl ⟨D, vs, rfl, nDH, .inl hDf, by omega, fun y hy => An.mono (fun a o hb ha _ => ⟨⟨hb.1, hb.2.2⟩, X _ _ ha⟩) (hA y hy)⟩))⟩
        · exact ⟨L, _, _, .ref p, rfl, rfl, SqL.of upd_same, atI_n1 (n := 2) rfl, q _ _ Sf kf (.inr (.inr ⟨p, _, rfl, npH, dk, hmn, hml⟩))⟩
end
end Lm

namespace Lm
open PySem L2 Evl RZ
/-! ### lists of truths compared -/
def dB (l : List Bool) : PyData := .list (l.map PyData.bool)
section
variable {K : PySem.W.Frag} {H : Hp}
theorem dpAll_bls : ∀ l : List Bool, DpAll K H (l.map V.bl) (l.map PyData.bool)
  | [] => .nil
  | n :: r => .cons (.bl n) (dpAll_bls r)
theorem dp_bls {a : Addr} {l : List Bool} (h : H a = some (.lst (l.map V.bl))) : Dp K H (.ref a) (dB l) := .lst (sq_of h) (dpAll_bls l)
end
theorem layB : ∀ l : List Bool, PyData.canLayAll0 (l.map PyData.bool) = true
  | [] => rfl
  | x :: r => by
    show (true && PyData.canLayAll0 (r.map PyData.bool)) = true
    rw [layB r]
    rfl
theorem depB : ∀ l : List Bool, PyData.depthAll (l.map PyData.bool) = 0
  | [] => rfl
  | x :: r => by
    show max 0 (PyData.depthAll (r.map PyData.bool)) = 0
    rw [depB r]
    rfl
theorem shB (l : List Bool) : PySem.SeqAt.shaped (dB l) = true := by
  show (PyData.canLayAll0 (l.map PyData.bool) && decide (PyData.depthAll (l.map PyData.bool) + 1 ≤ 64)) = true
  rw [layB, depB]
  rfl
theorem eqvB : ∀ l m : List Bool, PyData.eqv (dB l) (dB m) = decide (l = m)
  | [], [] => rfl
  | [], _ :: _ => rfl
  | _ :: _, [] => rfl
  | x :: r, y :: t => by
    have ih := eqvB r t
    show (PyData.eqv (.bool x) (.bool y) && PyData.eqv (dB r) (dB t)) = decide (x :: r = y :: t)
    rw [ih]
    have e : PyData.eqv (.bool x) (.bool y) = decide (x = y) := by cases x <;> cases y <;> rfl
    rw [e]
    by_cases h1 : x = y <;> by_cases h2 : r = t <;> simp [h1, h2]
section
variable {K : PySem.W.Frag} {σ : L2.St} {H : Hp} {ta tb : TE}
theorem ev_neB {l m : List Bool} (h1 : EvL ta σ H (l.map V.bl)) (h2 : EvL tb σ H (m.map V.bl)) : Ev (tOp (rNeD K) ta tb) σ H (.bl (!decide (l = m))) := fun H1 e Q q =>
  h1 H1 e _ fun p H2 np e2 hp => h2 H2 (Ex.trans e e2) _ fun p' H3 _ e3 hp' => ⟨dB l, dB m, dp_bls (e3 _ _ hp), dp_bls hp', shB l, shB m, by rw [eqvB]; exact q H3 (Ex.trans e2 e3)⟩
theorem ev_eqB {l m : List Bool} (h1 : EvL ta σ H (l.map V.bl)) (h2 : EvL tb σ H (m.map V.bl)) : Ev (tOp (rEqD K) ta tb) σ H (.bl (decide (l = m))) := fun H1 e Q q =>
  h1 H1 e _ fun p H2 np e2 hp => h2 H2 (Ex.trans e e2) _ fun p' H3 _ e3 hp' => ⟨dB l, dB m, dp_bls (e3 _ _ hp), dp_bls hp', shB l, shB m, by rw [eqvB]; exact q H3 (Ex.trans e2 e3)⟩
theorem el_repN {xs : List V} {n : Nat} (h1 : EvL ta σ H xs) (h2 : ∀ H1, Ex H H1 → Ev tb σ H1 (.int (n : Int))) (hl : n * xs.length ≤ 40000) (hn : n ≤ 40000) (hx : xs.length ≤ 40000) : EvL (tOp rRep ta tb) σ H (List.replicate n xs).flatten := fun H1 e Q q => h1 H1 e _ fun a H2 na e2 ha => h2 H2 (Ex.trans e e2) H2 (Ex.refl _) _ fun H3 e3 => by
  refine ⟨a, (n : Int), xs, rfl, rfl, e3 _ _ ha, by omega, by omega, sz_of (by rw [Int.toNat_natCast, Nat.mul_comm]; omega), fun p np => q p _ (fresh_back (Ex.trans e2 e3) np) (Ex.trans e2 (Ex.trans e3 (Ex.new np))) ?_⟩
  rw [Int.toNat_natCast]
  exact upd_same
end
/-! ### what the text says of the errors' classes -/
structure ErTab (K : PySem.W.Frag) (cs : List Addr) (L : Addr) : Prop where
  is : ∀ C ∈ cs, ErrIs K C
  x : ∀ C ∈ cs, XfC K C
  kit : ∀ (i j : Nat) C D, cs[i]? = some C → cs[j]? = some D → PySem.W.kitOne K (.ref C) (.ref D) = some (decide (j = i))
  kL : ∀ C ∈ cs, PySem.W.kitOne K (.ref C) (.ref L) = some true
  kV : ∀ C ∈ cs, PySem.W.kitOne K (.ref C) (.type "ValueError") = some true
  no : ∀ (k : Nat) C g, cs[k]? = some C → erF[k]? = some g → PySem.W.findIn K (.ref C) g = some none
  noI : ∀ C, cs[13]? = some C → PySem.W.findIn K (.ref C) "index" = some none ∧ PySem.W.findIn K (.ref C) "reason" = some none
  isL : ErrIs K L
  kitL : ∀ (j : Nat) D, cs[j]? = some D → PySem.W.kitOne K (.ref L) (.ref D) = some false
  kLL : PySem.W.kitOne K (.ref L) (.ref L) = some true
  kLV : PySem.W.kitOne K (.ref L) (.type "ValueError") = some true
def clsB (b : Nat → Bool) : List Bool := (List.range 17).map b ++ [true, true]
section
variable {K : PySem.W.Frag} {σ : L2.St} {H : Hp} {cs : List Addr} {L : Addr} {tl tr : TE}
/-- the classes of the error with a number -/
theorem el_cls {e C : Addr} {i : Nat} (T : ErTab K cs L) (h : Ev tl σ H (.ref e)) (hC : cs[i]? = some C) (hx : ExAt H e C) : EvL (tCall (spClasses K cs L) [] E0 (tCons tl tNil)) σ H ((clsB fun t => decide (t = i)).map V.bl) := fun H1 x1 Q q =>
  h H1 x1 _ fun H2 x2 => ⟨e, C, fun t => decide (t = i), rfl, hx.ex (Ex.trans x1 x2), T.is C (List.mem_of_getElem? hC), fun j D hj => T.kit i j C D hC hj, T.kL C (List.mem_of_getElem? hC), T.kV C (List.mem_of_getElem? hC), fun p H' np x hp => q p H' (fresh_back x2 np) (Ex.trans x2 x) hp⟩
theorem el_clsL (T : ErTab K cs L) : EvL (tCall (spClasses K cs L) [] E0 (tCons (tEr0 L) tNil)) σ H ((clsB fun _ => false).map V.bl) := fun H1 x1 Q q a na =>
  ⟨a, L, fun _ => false, rfl, .inl upd_same, T.isL, T.kitL, T.kLL, T.kLV, fun p H' np x hp => q p H' (fresh_back (Ex.new na) np) (Ex.trans (Ex.new na) x) hp⟩
theorem el_due {i : Nat} {te : TE} {j : Nat} (h : ∀ (t : Nat) H1, Ex H H1 → Ev te ((wipe σ [j]).set j (some (.int (t : Nat)))) H1 (.bl (decide (t = i)))) : EvL (tOp rCat (tLc (iRng1 (tCons (tC (.int 17)) tNil)) (gName j) tYes te [j]) (tLst (tCons (tC (.bl true)) (tCons (tC (.bl true)) tNil)))) σ H ((clsB fun t => decide (t = i)).map V.bl) := by
  have h1 := el_cat (el_mapR (n := 17) (j := j) (te := te) (g := fun t => V.bl (decide (t = i))) (σ := σ) (H := H) (ta := tCons (tC (.int 17)) tNil) (ea_cons ev_c ea_nil) (by decide) fun k _ H1 e1 => h k H1 e1) (el_lst (ea_cons (ev_c (v := .bl true)) (ea_cons (ev_c (v := .bl true)) ea_nil)) (by show 2 ≤ 100000; decide)) (by rw [List.length_map, List.length_range]; show 17 + 2 ≤ 100000; decide)
  have e : ((clsB fun t => decide (t = i)).map V.bl) = (List.range 17).map (fun t => V.bl (decide (t = i))) ++ [.bl true, .bl true] := by
    unfold clsB
    rw [List.map_append, List.map_map]
    rfl
  rw [e]
  exact h1
theorem el_dueL : EvL (tOp rCat (tOp rRep (tLst (tCons (tC (.bl false)) tNil)) (tC (.int 17))) (tLst (tCons (tC (.bl true)) (tCons (tC (.bl true)) tNil)))) σ H ((clsB fun _ => false).map V.bl) := by
  have h1 := el_cat (el_repN (n := 17) (σ := σ) (H := H) (tb := tC (.int 17)) (el_lst (ea_cons (ev_c (v := .bl false)) ea_nil) (by show 1 ≤ 100000; decide)) (fun _ _ => ev_c) (by show 17 * 1 ≤ 40000; decide) (by decide) (by show 1 ≤ 40000; decide)) (el_lst (ea_cons (ev_c (v := .bl true)) (ea_cons (ev_c (v := .bl true)) ea_nil)) (by show 2 ≤ 100000; decide)) (by show 17 + 2 ≤ 100000; decide)
  have e : ((clsB fun _ => false).map V.bl) = (List.replicate 17 [V.bl false]).flatten ++ [.bl true, .bl true] := rfl
  rw [e]
  exact h1
end
/-! ### what is changed, and stays the same as itself -/
theorem SameV.up {H : Hp} : ∀ {d : Nat} {x y : V}, SameV H d x y → SameV H (d + 1) x y
  | 0, _, _, h => h.elim
  | d + 1, x, y, h => by
    rcases h with h | h | h | h | ⟨a, b, xs, ys, rfl, rfl, ha, hb, h1, h2, h3⟩ | ⟨a, b, xs, ys, rfl, rfl, ha, hb, h1, h2, h3⟩ | h
    · exact .inl h
    · exact .inr (.inl h)
    · exact .inr (.inr (.inl h))
    · exact .inr (.inr (.inr (.inl h)))
    · exact .lst ha hb h1 h2 fun i u v q1 q2 => SameV.up (h3 i u v q1 q2)
    · exact .tup ha hb h1 h2 fun i u v q1 q2 => SameV.up (h3 i u v q1 q2)
    · exact .inr (.inr (.inr (.inr (.inr (.inr h)))))
theorem AnT.mono {H H' : Hp} {B B' : Addr → Prop} (e : ∀ a o, B a → H a = some o → (∀ ps, o ≠ .tbl ps) → B' a ∧ H' a = some o) : ∀ {d : Nat} {x : V}, AnT B d H x → AnT B' d H' x
  | 0, _, h => h
  | d + 1, x, h => by
    rcases h with h | ⟨a, xs, rfl, hb, h, hl, k⟩ | ⟨a, ks, rfl, hb, h, hn, hl⟩
    · exact .inl h
    · rcases h with h | h
      · obtain ⟨q1, q2⟩ := e a _ hb h (fun _ z => by cases z)
        exact .inr (.inl ⟨a, xs, rfl, q1, .inl q2, hl, fun y hy => An.mono (fun b o hb hx n => ⟨⟨(e b o hb.1 hx n).1, hb.2⟩, (e b o hb.1 hx n).2⟩) (k y hy)⟩)
      · obtain ⟨q1, q2⟩ := e a _ hb h (fun _ z => by cases z)
        exact .inr (.inl ⟨a, xs, rfl, q1, .inr q2, hl, fun y hy => An.mono (fun b o hb hx n => ⟨⟨(e b o hb.1 hx n).1, hb.2⟩, (e b o hb.1 hx n).2⟩) (k y hy)⟩)
    · obtain ⟨q1, q2⟩ := e a _ hb h (fun _ z => by cases z)
      exact .inr (.inr ⟨a, ks, rfl, q1, q2, hn, hl⟩)
theorem AnT.ne_ext {H : Hp} {B : Addr → Prop} {d : Nat} {x : V} {b : Addr} {φ : Heap → Prop} (h : AnT B d H x) (hb : H b = some (.ext φ)) : x ≠ .ref b := fun z => by
  subst z
  cases d with
  | zero => rcases h with ⟨_, h⟩ | ⟨_, h⟩ | ⟨_, h⟩ | h <;> cases h
  | succ d =>
    rcases h with h | ⟨a, xs, e, _, h, _⟩ | ⟨a, ks, e, _, h, _⟩
    · rcases h with ⟨_, h⟩ | ⟨_, h⟩ | ⟨_, h⟩ | h <;> cases h
    · cases e
      rcases h with h | h
      · rw [hb] at h; cases h
      · rw [hb] at h; cases h
    · cases e
      rw [hb] at h
      cases h
theorem ErrX.keep {H H' : Hp} {e C : Addr} {fs : List (Str × V)} {B : Addr → Prop} {d : Nat} {x : V} (h : ErrX H e C fs) (hA : AnT B d H x) (k : ∀ b o, H b = some o → x ≠ .ref b → H' b = some o) : ErrX H' e C fs :=
  let ⟨dx, h1, h2⟩ := h
  ⟨dx, k _ _ h1 (hA.ne_ext (show H e = some (.ext _) from h1)), k _ _ h2 (hA.ne_ext (show H dx = some (.ext _) from h2))⟩
theorem ne_of_flt {x : V} (h : flt x) (b : Addr) : x ≠ .ref b := fun z => by
  subst z
  rcases h with ⟨_, h⟩ | ⟨_, h⟩ | ⟨_, h⟩ | h <;> cases h
section
variable {K : PySem.W.Frag} {σ : L2.St} {H : Hp}
theorem q_changed {tz : TS} {D : Ends} {i : Nat} {x : V} {st c : Addr} {B : Addr → Prop} (hs : σ[i]? = some (some x)) (S : StAt H st c) (hA : AnT B 2 H x) (hB : ∀ a, B a → a ≠ st ∧ a ≠ c)
    (k : ∀ H', StAt H' st c → (∀ b o, H b = some o → x ≠ .ref b → H' b = some o) → (∀ b o, H b = some o → H' b ≠ none) → (∀ H'', (∀ b o, B b → H' b = some o → (∀ ps, o ≠ .tbl ps) → H'' b = some o) → SameV H'' 4 x x) → tz D σ H') : tSeq (tDrop (tCall spChanged [] E0 (tCons (tVar i) tNil))) tz D σ H := by
  have stay : ∀ H', Ex H H' → tz D σ H' := fun H' e => k H' (S.same e) (fun b o h _ => e _ _ h) (fun b o h z => by rw [e _ _ h] at z; cases z) fun H'' m => (An.same (An.mono (fun b o hb ho n => ⟨hb, m b o hb (e _ _ ho) n⟩) hA.an)).up
  rcases hA with h | ⟨a, xs, rfl, hb, h, hl, hk⟩ | ⟨a, ks, rfl, hb, h, hn, hl⟩
  · exact ⟨_, hs, x, rfl, .inl ⟨h, stay⟩⟩
  · rcases h with h | h
    · refine ⟨_, hs, _, rfl, .inr (.inr (.inl ⟨a, xs, rfl, h, by omega, fun H1 H' x1 x2 => ?_⟩))⟩
      have ha' := x2 _ _ (upd_same : (upd H1 a (.lst (xs ++ [.str more1]))) a = some (.lst (xs ++ [.str more1])))
      have kp : ∀ b o, H b = some o → b ≠ a → H' b = some o := fun b o hb' n => x2 _ _ (by rw [upd_ne n]; exact x1 _ _ hb')
      refine k H' (((S.same x1).mut (hB a hb).1 (hB a hb).2).same x2) (fun b o hb' n => kp b o hb' fun z => n (by rw [z])) (fun b o hb' z => ?_) fun H'' m => ?_
      · by_cases q : b = a
        · subst q; rw [ha'] at z; cases z
        · rw [kp b o hb' q] at z; cases z
      · have ha2 := m a _ hb ha' (fun _ z => by cases z)
        refine (SameV.lst ha2 ha2 rfl (by rw [List.length_append]; show xs.length + 1 ≤ 40000; omega) fun i u v q1 q2 => ?_ : SameV H'' 3 _ _).up
        rw [q1] at q2
        cases (Option.some.inj q2)
        rcases List.mem_append.mp (List.mem_of_getElem? q1) with hu | hu
        · exact An.same (An.mono (B' := B) (fun b o hb ho n => ⟨hb.1, m b o hb.1 (kp b o ho hb.2) n⟩) (hk u hu))
        · rw [List.mem_singleton] at hu
          subst hu
          exact .str _
    · exact ⟨_, hs, _, rfl, .inr (.inl ⟨a, xs, rfl, h, fun H' e => k H' (S.same e) (fun b o h _ => e _ _ h) (fun b o h z => by rw [e _ _ h] at z; cases z) fun H'' m => (An.same (An.mono (fun b o hb ho n => ⟨hb, m b o hb (e _ _ ho) n⟩) (AnT.an (d := 2) (.inr (.inl ⟨a, xs, rfl, hb, .inr h, hl, hk⟩))))).up⟩)⟩
  · refine ⟨_, hs, _, rfl, .inr (.inr (.inr ⟨a, ks, rfl, h, by omega, fun H1 x1 => ?_⟩))⟩
    have kp : ∀ b o, H b = some o → b ≠ a → (upd H1 a (.dK (putK ks (.inr more1) (.int 1)))) b = some o := fun b o hb' n => by rw [upd_ne n]; exact x1 _ _ hb'
    refine k _ ((S.same x1).mut (hB a hb).1 (hB a hb).2) (fun b o hb' n => kp b o hb' fun z => n (by rw [z])) (fun b o hb' z => ?_) fun H'' m => .dct (m a _ hb upd_same (fun _ z => by cases z)) (putK_nodup hn)
    by_cases q : b = a
    · subst q; rw [upd_same] at z; cases z
    · rw [kp b o hb' q] at z; cases z
theorem ev_xv {i : Nat} {e C : Addr} {fs : List (Str × V)} {f : Str} {x : V} (hs : σ[i]? = some (some (.ref e))) (hX : XfC K C) (hno : PySem.W.findIn K (.ref C) f = some none) (hx : ErrX H e C fs) (hl : fs.lookup f = some x) : Ev (tXv K f (tVar i)) σ H x := fun H1 e1 Q q => xv_leaf hs hX hno (hx.ex e1) hl (q H1 (Ex.refl _))
theorem ite_er {ta tb : TE} {b : Bool} {C : Addr} {fs : List (Str × V)} {Q : VK} (h1 : EvE ta σ H C fs) (h2 : EvE tb σ H C fs) (k : ∀ e H1, Ex H H1 → ErrX H1 e C fs → Q (.ref e) H1) : if b = true then ta σ H Q else tb σ H Q := by
  cases b with
  | true => exact h1 H (Ex.refl _) Q k
  | false => exact h2 H (Ex.refl _) Q k
end
end Lm

namespace Lm
open PySem L2 Evl RZ
def spLaw (K : PySem.W.Frag) : Sp := fun vs H Q _ => ∃ (a : Addr) (ns : List Int), vs = [.ref a] ∧ SqL K H a (ns.map V.int) ∧ ns.length ≤ 63 ∧ ∀ H', Q (.bl true) H'
theorem ev_field {K : PySem.W.Frag} {σ : L2.St} {H : Hp} {i j : Nat} {e C : Addr} {k : Nat} {g : Str} {x : V} (h1 : σ[i]? = some (some (.ref e))) (h2 : σ[j]? = some (some (.int (k : Nat)))) (hk : k < 13) (hg : erF[k]? = some g) (hX : XfC K C) (hno : PySem.W.findIn K (.ref C) g = some none) (hx : ErrX H e C [(g, x)]) :
    Ev (tCall (spField K) [] E0 (tCons (tVar i) (tCons (tVar j) tNil))) σ H x := ev_call (ea_cons (ev_var h1) (ea_cons (ev_var h2) ea_nil)) fun H1 x1 Q q E => ⟨e, C, k, g, x, rfl, hk, hg, hX, hno, hx.ex x1, fun H2 x2 => q H2 x2⟩
theorem ev_same1 {σ : L2.St} {H : Hp} {n : Nat} {x : V} {ta tb : TE} (h1 : Ev ta σ H x) (h2 : Ev tb σ H x) (hs : ∀ H1, Ex H H1 → SameV H1 n x x) : Ev (tCall (spSame n) [] E0 (tCons ta (tCons tb tNil))) σ H (.bl true) := ev_call (ea_cons h1 (ea_cons h2 ea_nil)) fun H1 x1 Q q E => ⟨x, x, rfl, hs H1 x1, fun H2 x2 => q H2 x2⟩
theorem te_call2 {σ : L2.St} {H : Hp} {sp : Sp} {ta tb : TE} {Q : VK} (h : ta σ H fun v H1 => tb σ H1 fun u H2 => sp [v, u] H2 Q E0) : tCall sp [] E0 (tCons ta (tCons tb tNil)) σ H Q := h
theorem ev_same2 {σ : L2.St} {H : Hp} {n : Nat} {x y : V} {ta tb tc td : TE} (h1 : Ev ta σ H x) (h2 : Ev tb σ H y) (h3 : Ev tc σ H x) (h4 : Ev td σ H y) (hx : ∀ H1, Ex H H1 → SameV H1 n x x) (hy : ∀ H1, Ex H H1 → SameV H1 n y y) :
    Ev (tCall (spSame (n + 1)) [] E0 (tCons (tLst (tCons ta (tCons tb tNil))) (tCons (tLst (tCons tc (tCons td tNil))) tNil))) σ H (.bl true) := fun H1 x1 Q q =>
  te_call2 <| (el_lst (ea_cons h1 (ea_cons h2 ea_nil)) (by show 2 ≤ 100000; decide) : EvL _ σ H [x, y]) H1 x1 _ fun p H2 np x2 hp => (el_lst (ea_cons h3 (ea_cons h4 ea_nil)) (by show 2 ≤ 100000; decide) : EvL _ σ H [x, y]) H2 (Ex.trans x1 x2) _ fun p' H3 np' x3 hp' =>
    ⟨.ref p, .ref p', rfl, SameV.lst (x3 _ _ hp) hp' rfl (by show 2 ≤ 40000; decide) fun i u v q1 q2 => by
      rw [q1] at q2
      cases (Option.some.inj q2)
      have hm := List.mem_of_getElem? q1
      rcases List.mem_cons.mp hm with rfl | hm
      · exact hx _ (Ex.trans x1 (Ex.trans x2 x3))
      · rw [List.mem_singleton] at hm
        subst hm
        exact hy _ (Ex.trans x1 (Ex.trans x2 x3)), fun H4 x4 => q H4 (Ex.trans x2 (Ex.trans x3 x4))⟩
section
variable {P : Program} {w : World} {K : PySem.W.Frag} {mg : Str → Option Value} {base : Heap} {f : Addr} {fd : FuncData}
abbrev s_law : Stmt := top 30
theorem sc_law : FnScope ["_law_script", "_law_state", "_law_turn", "_law_k", "_law_x", "_law_e", "_law_y", "_law_at"] ["_law_script"] (defScope s_law) := ⟨rfl, rfl, rfl, by decide +kernel, rfl, by decide +kernel, by decide +kernel⟩
theorem ok_law {C_BadWord C_BadPassage C_BadCount C_BadCut C_BadSize C_BadEdition C_BadText C_BadDeed C_BadFault C_BadKinds C_TooMany C_BadMark C_BadJump C_BadRule C_OtherWork C_BadSetting C_Away C_LeafError : Addr} {f1 f2 f3 f4 f5 f6 f7 f8 I_BadRule : Addr} {d1 d2 d3 d4 d5 d6 d7 d8 D_BadRule : FuncData} (F : L2.Fun K "law" "law" s_law f fd) (T : Blt mg)
    (TB : ErTab K [C_BadWord, C_BadPassage, C_BadCount, C_BadCut, C_BadSize, C_BadEdition, C_BadText, C_BadDeed, C_BadFault, C_BadKinds, C_TooMany, C_BadMark, C_BadJump, C_BadRule, C_OtherWork, C_BadSetting, C_Away] C_LeafError)
    (D_fresh : DefOk P w K mg base 1 "_law_fresh" f1 d1 ["_law_script"] (spFresh K)) (D_take : DefOk P w K mg base 2 "_law_take" f2 d2 ["_law_state", "_law_many"] spTake)
    (D_any : DefOk P w K mg base 12 "_law_any" f3 d3 ["_law_state", "_law_deep"] (spAny 3)) (D_same : DefOk P w K mg base 5 "_law_same" f4 d4 ["_law_found", "_law_due"] (spSame 5))
    (D_made : DefOk P w K mg base 3 "_law_made" f5 d5 ["_law_k", "_law_x", "_law_named"] (spMade [C_BadWord, C_BadPassage, C_BadCount, C_BadCut, C_BadSize, C_BadEdition, C_BadText, C_BadDeed, C_BadFault, C_BadKinds, C_TooMany, C_BadMark, C_BadJump, C_BadRule, C_OtherWork, C_BadSetting, C_Away]))
    (D_field : DefOk P w K mg base 1 "_law_field" f6 d6 ["_law_e", "_law_k"] (spField K))
    (D_classes : DefOk P w K mg base 1 "_law_classes" f7 d7 ["_law_e"] (spClasses K [C_BadWord, C_BadPassage, C_BadCount, C_BadCut, C_BadSize, C_BadEdition, C_BadText, C_BadDeed, C_BadFault, C_BadKinds, C_TooMany, C_BadMark, C_BadJump, C_BadRule, C_OtherWork, C_BadSetting, C_Away] C_LeafError))
    (D_changed : DefOk P w K mg base 1 "_law_changed" f8 d8 ["_law_x"] spChanged)
    (V_BadRule : ErrV P w K mg base 1 "BadRule" C_BadRule I_BadRule D_BadRule ["self", "index", "reason"] (spErrI2 C_BadRule "index" "reason")) (BK_BadRule : KBn K D_BadRule ["self", "index", "reason"] 1 ["reason", "index"] swapR swapR)
    (T_OtherWork : ErrTxt K mg "OtherWork" C_OtherWork) (T_BadSetting : ErrTxt K mg "BadSetting" C_BadSetting) (T_Away : ErrTxt K mg "Away" C_Away) (T_LeafError : ErrTxt K mg "LeafError" C_LeafError) :
    FnOk P w K mg base CX0 14 f fd ["_law_script"] (spLaw K) := by
  refine F.ok sc_law (fun vs H Q E h => ?_) (fun cdv A outer s H vs Q E hr h => ?_)
  · obtain ⟨a, ns, rfl, _⟩ := h
    rfl
  · obtain ⟨a, ns, rfl, hS, hl, k⟩ := h
    refine ⟨_, (pss_cons (ps_set (i := 1) sc_law.nd rfl (by first | exact Or.inl rfl | exact Or.inr rfl) (pe_d D_fresh (hr.mono (by decide)) (pa_cons (pv 0) pa_nil)))
        (pss_cons (ps_for PassesOwn.never rfl (pi_range1 rfl T.b_range (pa_cons pe_int pa_nil)) (pg_name (i := 2) sc_law.nd rfl (by first | exact Or.inl rfl | exact Or.inr rfl)) (pss_cons (ps_for PassesOwn.never rfl (pi_range1 rfl T.b_range (pa_cons pe_int pa_nil)) (pg_name (i := 3) sc_law.nd rfl (by first | exact Or.inl rfl | exact Or.inr rfl)) (pss_cons (ps_set (i := 4) sc_law.nd rfl (by first | exact Or.inl rfl | exact Or.inr rfl) (pe_d D_any (hr.mono (by decide)) (pa_cons (pv 1) (pa_cons pe_int pa_nil))))
        (pss_cons (ps_set (i := 5) sc_law.nd rfl (by first | exact Or.inl rfl | exact Or.inr rfl) (pe_d D_made (hr.mono (by decide)) (pa_cons (pv 3) (pa_cons (pv 4) (pa_cons (pe_cmpR op_eq (pe_d D_take (hr.mono (by decide)) (pa_cons (pv 1) (pa_cons pe_int pa_nil))) pe_int (nomark _)) pa_nil)))))
        (pss_cons (ps_expr (pe_d D_changed (hr.mono (by decide)) (pa_cons (pv 4) pa_nil)))
        (pss_cons (ps_if (pt_not (pt_val (pe_d D_same (hr.mono (by decide)) (pa_cons (pe_d D_field (hr.mono (by decide)) (pa_cons (pv 5) (pa_cons (pv 3) pa_nil))) (pa_cons (pv 4) pa_nil))))) (pss_one (ps_ret pe_bl)) pss_nil)
        (pss_one (ps_if (pt_cmpR (op_neD hr.units) (pe_d D_classes (hr.mono (by decide)) (pa_cons (pv 5) pa_nil)) (pe_op op_cat (pe_lc (own := [("_law_at", 7)]) (g := gName 7) (tt := tYes) (te := (tOp rEq (tVar 7) (tVar 3))) rfl sc_law.nd (pi_range1 rfl T.b_range (pa_cons pe_int pa_nil)) (blkOk_by (own := [("_law_at", 7)]) (by kernel_rfl)) (fun _ _ _ _ _ => (pg_name (i := 7) sc_law.nd rfl (by first | exact Or.inl rfl | exact Or.inr rfl))) (fun _ _ _ _ _ => pts_nil) (fun _ _ _ _ _ => by exact (pe_cmpR op_eq (pv 7) (pv 3) (nomark _)))) (pe_lst (pa_cons pe_bl (pa_cons pe_bl pa_nil)))) (nomark _)) (pss_one (ps_ret pe_bl)) pss_nil)))))))
        (pss_cons (ps_par (i := 4) (j := 6) (by rfl) sc_law.nd rfl rfl (by decide) rfl rfl (pa_cons (pe_d D_any (hr.mono (by decide)) (pa_cons (pv 1) (pa_cons pe_int pa_nil))) (pa_cons (pe_d D_any (hr.mono (by decide)) (pa_cons (pv 1) (pa_cons pe_int pa_nil))) pa_nil)) (by rfl))
        (pss_cons (ps_set (i := 5) sc_law.nd rfl (by first | exact Or.inl rfl | exact Or.inr rfl) (pe_ifExp (pt_cmpR op_eq (pe_d D_take (hr.mono (by decide)) (pa_cons (pv 1) (pa_cons pe_int pa_nil))) pe_int (nomark _)) (pe_erVK V_BadRule BK_BadRule (hr.mono (by decide)) (pk_cons (pv 6) (pk_cons (pv 4) pk_nil)) (by decide)) (pe_erV V_BadRule (hr.mono (by decide)) (pa_cons (pv 4) (pa_cons (pv 6) pa_nil)))))
        (pss_cons (ps_expr (pe_d D_changed (hr.mono (by decide)) (pa_cons (pv 4) pa_nil)))
        (pss_cons (ps_expr (pe_d D_changed (hr.mono (by decide)) (pa_cons (pv 6) pa_nil)))
        (pss_cons (ps_if (pt_not (pt_val (pe_d D_same (hr.mono (by decide)) (pa_cons (pe_lst (pa_cons (pe_xv (pv 5)) (pa_cons (pe_xv (pv 5)) pa_nil))) (pa_cons (pe_lst (pa_cons (pv 4) (pa_cons (pv 6) pa_nil))) pa_nil))))) (pss_one (ps_ret pe_bl)) pss_nil)
        (pss_one (ps_for PassesOwn.never rfl (pi_enumA rfl T.b_enumerate (pa_cons (pe_lst (pa_cons (pv 5) (pa_cons (pe_er0 T_OtherWork) (pa_cons (pe_er0 T_BadSetting) (pa_cons (pe_er0 T_Away) pa_nil))))) pa_nil)) (pg_tup rfl (pgs_cons (pg_name (i := 3) sc_law.nd rfl (by first | exact Or.inl rfl | exact Or.inr rfl)) (pgs_cons (pg_name (i := 5) sc_law.nd rfl (by first | exact Or.inl rfl | exact Or.inr rfl)) pgs_nil))) (pss_one (ps_if (pt_cmpR (op_neD hr.units) (pe_d D_classes (hr.mono (by decide)) (pa_cons (pv 5) pa_nil)) (pe_op op_cat (pe_lc (own := [("_law_at", 7)]) (g := gName 7) (tt := tYes) (te := (tOp rEq (tVar 7) (tOp (rI0 fun i j => .int (i + j)) (tC (.int 13)) (tVar 3)))) rfl sc_law.nd (pi_range1 rfl T.b_range (pa_cons pe_int pa_nil)) (blkOk_by (own := [("_law_at", 7)]) (by kernel_rfl)) (fun _ _ _ _ _ => (pg_name (i := 7) sc_law.nd rfl (by first | exact Or.inl rfl | exact Or.inr rfl))) (fun _ _ _ _ _ => pts_nil) (fun _ _ _ _ _ => by exact (pe_cmpR op_eq (pv 7) (pe_op op_add pe_int (pv 3)) (nomark _)))) (pe_lst (pa_cons pe_bl (pa_cons pe_bl pa_nil)))) (nomark _)) (pss_one (ps_ret pe_bl)) pss_nil)))))))))))
        (pss_one (ps_ret (pe_cmpR (op_eqD hr.units) (pe_d D_classes (hr.mono (by decide)) (pa_cons (pe_er0 T_LeafError) pa_nil)) (pe_op op_cat (pe_op op_rep (pe_lst (pa_cons pe_bl pa_nil)) pe_int) (pe_lst (pa_cons pe_bl (pa_cons pe_bl pa_nil)))) (nomark _)))))), ?_⟩
    refine ⟨_, rfl, a, ns, rfl, hS, hl, fun st c H0 nst nc e0 S0 => ?_⟩
    refine ⟨_, rfl, by decide, by decide, for_range (lo := 0) (n := 2) (fun i σ' H' => ∃ v2 v3 v4 v5 v6 v7 : Option V, σ' = [some (.ref a), some (.ref st), v2, v3, v4, v5, v6, v7] ∧ StAt H' st c)
      ⟨none, none, none, none, none, none, rfl, S0⟩ ?_ ?_⟩
    · rintro i0 σ' H hi0 ⟨v2, v3, v4, v5, v6, v7, rfl, S⟩
      dsimp only [List.set]
      refine q_forR1 (n := 13) (ea_cons ev_c ea_nil) (by decide) (fun j σ' H' => ∃ u3 u4 u5 u6 u7 : Option V, σ' = [some (.ref a), some (.ref st), some (.int ((0 : Int) + (i0 : Int))), u3, u4, u5, u6, u7] ∧ StAt H' st c) (fun H1 e1 => ⟨_, _, _, _, _, rfl, S.same e1⟩) ?_ ?_
      · rintro j σ' H hj ⟨u3, u4, u5, u6, u7, rfl, S⟩
        have hj : j < 13 := by omega
        dsimp only [List.set]
        refine q_asgC (ea_cons (ev_var rfl) (ea_cons ev_c ea_nil)) fun H1 e1 => ⟨st, c, rfl, S.same e1, fun x H2 S2 k2 hA => ?_⟩
        dsimp only [List.set]
        have S1 := S.same e1
        refine ⟨_, rfl, _, rfl, ⟨_, rfl, st, c, 2, rfl, S2, by decide, by decide, fun w H3 w0 w1 S3 k3 => ⟨rfl, ?_⟩⟩⟩
        refine ⟨j, x, _, rfl, hj, fun e C g H4 hC hg x4 hx => ?_⟩
        dsimp only [gName, List.set]
        have S4 := S3.same x4
        have hB : ∀ b, H1 b = none → b ≠ st ∧ b ≠ c := fun b hb => S1.of_new hb
        have hA4 : AnT (fun b => H1 b = none) 2 H4 x := AnT.mono (fun b o hb ho _ => ⟨hb, x4 _ _ (k3 _ _ (hB b hb).1 ho)⟩) hA
        refine q_changed (i := 4) (x := x) rfl S4 hA4 hB fun H5 S5 kp _ sm => ?_
        have hx5 := hx.keep hA4 kp
        have hmem := List.mem_of_getElem? hC
        refine q_when (b := false) (et_is (et_not (et_B (ev_same1 (n := 5) (ev_field (i := 5) (j := 3) (k := j) rfl rfl hj hg (TB.x C hmem) (TB.no j C g hC hg) hx5) (ev_var (i := 4) rfl) fun H6 x6 => (sm H6 fun b o _ ho _ => x6 _ _ ho).up))) rfl) (fun z => nomatch z) fun _ H6 x6 => ?_
        refine s_when (b := false) (et_is (et_test (ev_neB (el_cls (i := j) TB (ev_var (i := 5) rfl) hC (hx5.ex x6).at) (el_due (i := j) (j := 7) fun t H7 x7 => ev_is (ev_op (ev_var rfl) (ev_var rfl) (rv_eq rfl)) (by
          by_cases z : t = j
          · subst z; simp
          · rw [decide_eq_false z, decide_eq_false (fun q => z (by injection q with q; omega))])))) (by simp)) (fun z => nomatch z) fun _ H7 x7 => ?_
        exact ⟨_, _, _, _, _, rfl, (S5.same x6).same x7⟩
      · rintro σ' H ⟨u3, u4, u5, u6, u7, rfl, S⟩
        refine ⟨_, rfl, st, c, rfl, S, fun x H2 S2 k2 hA => ⟨_, rfl, st, c, rfl, S2, fun y H3 S3 k3 hA' => ⟨_, _, rfl, ?_⟩⟩⟩
        dsimp only [List.set]
        refine ⟨_, rfl, st, c, 2, rfl, S3, by decide, by decide, fun w H4 w0 w1 S4 k4 => ⟨rfl, _, rfl, ?_⟩⟩
        refine ite_er (C := C_BadRule) (fs := [("reason", y), ("index", x)]) (ee_mkK2 (ev_var rfl) (ev_var rfl)) (ee_mk2 (ev_var rfl) (ev_var rfl)) fun e H5 x5 hx => ?_
        dsimp only [gName, List.set]
        have S5 := S4.same x5
        have hBx : ∀ b, H b = none ∧ H2 b ≠ none → b ≠ st ∧ b ≠ c := fun b hb => S.of_new hb.1
        have hBy : ∀ b, H2 b = none → b ≠ st ∧ b ≠ c := fun b hb => S2.of_new hb
        have hAx : AnT (fun b => H b = none ∧ H2 b ≠ none) 2 H5 x := AnT.mono (fun b o hb ho _ => ⟨⟨hb, by rw [ho]; exact fun z => nomatch z⟩, x5 _ _ (k4 _ _ (S.of_new hb).1 (k3 _ _ (S.of_new hb).1 ho))⟩) hA
        have hAy : AnT (fun b => H2 b = none) 2 H5 y := AnT.mono (fun b o hb ho _ => ⟨hb, x5 _ _ (k4 _ _ (hBy b hb).1 ho)⟩) hA'
        have nxy : ∀ b, H2 b = none → x ≠ .ref b := fun b hb z => by
          subst z
          rcases hA with h | ⟨a', xs, e', _, h, _⟩ | ⟨a', ks, e', _, h, _⟩
          · exact ne_of_flt h b rfl
          · cases e'
            rcases h with h | h <;> (rw [hb] at h; cases h)
          · cases e'
            rw [hb] at h; cases h
        have nyx : ∀ b, H2 b ≠ none → y ≠ .ref b := fun b hb z => by
          subst z
          rcases hA' with h | ⟨a', xs, e', hn, _⟩ | ⟨a', ks, e', hn, _⟩
          · exact ne_of_flt h b rfl
          · cases e'
            exact hb hn
          · cases e'
            exact hb hn
        refine q_changed (i := 4) (x := x) rfl S5 hAx hBx fun H6 S6 kp6 _ smx => ?_
        have hAy6 : AnT (fun b => H2 b = none) 2 H6 y := AnT.mono (fun b o hb ho _ => ⟨hb, kp6 _ _ ho (nxy b hb)⟩) hAy
        have hx6 := hx.keep hAx kp6
        refine q_changed (i := 6) (x := y) rfl S6 hAy6 hBy fun H7 S7 kp7 _ smy => ?_
        have hx7 := hx6.keep hAy6 kp7
        have hX := TB.x C_BadRule (List.mem_of_getElem? (i := 13) rfl)
        obtain ⟨noI, noR⟩ := TB.noI C_BadRule rfl
        refine q_when (b := false) (et_is (et_not (et_B (ev_same2 (n := 4) (ev_xv (i := 5) rfl hX noI hx7 rfl) (ev_xv (i := 5) rfl hX noR hx7 rfl) (ev_var (i := 4) rfl) (ev_var (i := 6) rfl) (fun H8 x8 => smx H8 fun b o hb ho _ => x8 _ _ (kp7 _ _ ho (nyx b hb.2))) (fun H8 x8 => smy H8 fun b o _ ho _ => x8 _ _ ho)))) rfl) (fun z => nomatch z) fun _ H8 x8 => ?_
        refine ⟨_, rfl, fun a1 n1 a2 n2 a3 n3 => ⟨by show 4 ≤ sizeLine; decide, fun l nl => ?_⟩⟩
        have y1 := Ex.new n1 (o := exo a1 C_OtherWork none)
        have y2 := Ex.new n2 (o := exo a2 C_BadSetting none)
        have y3 := Ex.new n3 (o := exo a3 C_Away none)
        have y4 := Ex.new nl (o := .lst [.ref e, .ref a1, .ref a2, .ref a3])
        have Y := Ex.trans y1 (Ex.trans y2 (Ex.trans y3 y4))
        have hlst : ∀ i z, ([.ref e, .ref a1, .ref a2, .ref a3] : List V)[i]? = some z → ∃ e' C', z = .ref e' ∧ ([C_BadWord, C_BadPassage, C_BadCount, C_BadCut, C_BadSize, C_BadEdition, C_BadText, C_BadDeed, C_BadFault, C_BadKinds, C_TooMany, C_BadMark, C_BadJump, C_BadRule, C_OtherWork, C_BadSetting, C_Away] : List Addr)[13 + i]? = some C' ∧ ExAt (upd (upd (upd (upd H8 a1 (exo a1 C_OtherWork none)) a2 (exo a2 C_BadSetting none)) a3 (exo a3 C_Away none)) l (.lst [.ref e, .ref a1, .ref a2, .ref a3])) e' C' := fun i z h => by
          have hi := (List.getElem?_eq_some_iff.mp h).1
          have hi : i < 4 := hi
          rcases (by omega : i = 0 ∨ i = 1 ∨ i = 2 ∨ i = 3) with rfl | rfl | rfl | rfl
          · cases h; exact ⟨e, _, rfl, rfl, (hx7.ex (Ex.trans x8 Y)).at⟩
          · cases h; exact ⟨a1, _, rfl, rfl, .inl ((Ex.trans y2 (Ex.trans y3 y4)) _ _ upd_same)⟩
          · cases h; exact ⟨a2, _, rfl, rfl, .inl ((Ex.trans y3 y4) _ _ upd_same)⟩
          · cases h; exact ⟨a3, _, rfl, rfl, .inl (y4 _ _ upd_same)⟩
        have S9 := (S7.same x8).same Y
        have hlq : (upd (upd (upd (upd H8 a1 (exo a1 C_OtherWork none)) a2 (exo a2 C_BadSetting none)) a3 (exo a3 C_Away none)) l (.lst [.ref e, .ref a1, .ref a2, .ref a3])) l = some (.lst [.ref e, .ref a1, .ref a2, .ref a3]) := upd_same
        generalize upd (upd (upd (upd H8 a1 (exo a1 C_OtherWork none)) a2 (exo a2 C_BadSetting none)) a3 (exo a3 C_Away none)) l (.lst [.ref e, .ref a1, .ref a2, .ref a3]) = H9 at hlst S9 hlq
        refine ⟨l, _, rfl, .inl ⟨SqL.of hlq, for_it walk_enum (fun i σ' H' => ∃ w3 w5 w7 : Option V, σ' = [some (.ref a), some (.ref st), some (.int ((0 : Int) + (i0 : Int))), w3, some x, w5, some y, w7] ∧ Ex H9 H') ⟨_, _, _, rfl, Ex.refl _⟩ (fun i σ' H' _ ⟨_, _, _, _, h⟩ => SqL.of (h _ _ hlq)) ?_ ?_⟩⟩
        · rintro i z σ' H10 H11 hi ⟨w3, w5, w7, rfl, x10⟩ ⟨t, z1, z2, rfl, nt, rfl, hz1, hz2⟩
          cases (Option.some.inj hz1)
          obtain ⟨e', C', rfl, hC', hE'⟩ := hlst i z2 hz2
          refine ⟨t, _, rfl, SqT.of upd_same, rfl, _, _, rfl, _, _, rfl, rfl, ?_⟩
          dsimp only [List.set]
          have x11 := Ex.trans x10 (Ex.new nt (o := .tup [.int (i : Nat), .ref e']))
          refine s_when (b := false) (et_is (et_test (ev_neB (el_cls (i := 13 + i) TB (ev_var (i := 5) rfl) hC' (hE'.ex x11)) (el_due (i := 13 + i) (j := 7) fun t H7 x7 => ev_is (ev_op (ev_var rfl) (ev_op ev_c (ev_var rfl) rv_I0) (rv_eq rfl)) (by
            by_cases z : t = 13 + i
            · subst z; simp
            · rw [decide_eq_false z, decide_eq_false (fun q => z (by injection q with q; omega))])))) (by simp)) (fun z => nomatch z) fun _ H12 x12 => ?_
          exact ⟨_, _, _, rfl, Ex.trans x11 x12⟩
        · rintro σ' H10 ⟨w3, w5, w7, rfl, x10⟩
          exact ⟨_, _, _, _, _, _, rfl, S9.same x10⟩
    · rintro σ' H ⟨v2, v3, v4, v5, v6, v7, rfl, S⟩
      exact s_ret (ev_is (ev_eqB (el_clsL TB) el_dueL) (by simp)) fun H1 _ => k H1
end
end Lm

namespace Lm
open PySem L2 Evl RZ
/-- what the text says of one of the errors' classes -/
structure ErC (K : PySem.W.Frag) (n : Str) (C : Addr) (mro : List Value) : Prop where
  cd : ∃ cd : ClassData, PySem.W.clsIn K C = some cd ∧ cd.name = n ∧ cd.mro = .ref C :: mro
  ty : PySem.W.typeIn K (.ref C) = some (.type "type")
  is : ErrIs K C
  x : XfC K C
theorem erC_of {K : PySem.W.Frag} {n q : Str} {C N : Addr} {bs mro : List Value} {sn : List Str} {sub : List Value} {ab : Bool} {col : Option Bool} {dd : Option Addr} {k0 k1 k2 k3 k5 : Option Value} (h : K.lookup C = some (excClassObj n q C N bs mro true sn sub ab col dd k0 k1 k2 k3 k5 "ValueError.__new__"))
    (ty : PySem.W.typeIn K (.ref C) = some (.type "type")) (ga : PySem.W.findIn K (.ref C) "__getattribute__" = some (some (.builtin "BaseException.__getattribute__"))) (gg : PySem.W.findIn K (.ref C) "__getattr__" = some none) (ex : PySem.W.subIn K (.ref C) (.type "BaseException") = some true)
    (hd : PySem.W.hasDictIn K C = true) (ic : PySem.W.isClsIn K C = true) (ca : PySem.W.findIn K (.ref C) "__class__" = some (some (.builtin "object.__class__"))) (ob : PySem.W.mroIn K C (.type "object") = some true)
    (ge : PySem.W.specialIn K (.builtin "object.__class__") "__get__" = some (some (.builtin "getset_descriptor.__get__"))) (tk : PySem.W.takesIn K (.builtin "object.__class__") = some true) : ErC K n C mro :=
  ⟨⟨_, by unfold PySem.W.clsIn; rw [h] <;> rfl, rfl, rfl⟩, ty, ⟨ic, ga, gg, ex, ca, ge, tk, ob⟩, ⟨ga, gg, ex, hd⟩⟩
theorem kit_sub {K : PySem.W.Frag} {n m : Str} {C D : Addr} {l r : List Value} (h : ErC K n C l) (g : ErC K m D r) (hne : C ≠ D) : PySem.W.kitOne K (.ref C) (.ref D) = some (l.contains (.ref D)) := by
  obtain ⟨cd, h1, h2, h3⟩ := h.cd
  obtain ⟨cd', g1, g2, g3⟩ := g.cd
  have b : (Value.ref C == Value.ref D) = false := beq_eq_false_iff_ne.mpr fun z => hne (Value.ref.inj z)
  have b' : (Value.ref D == Value.ref C) = false := beq_eq_false_iff_ne.mpr fun z => hne (Value.ref.inj z).symm
  unfold PySem.W.kitOne
  rw [if_neg (by rw [b]; decide)]
  show (if ((PySem.W.clsIn K D).isSome && PySem.W.typeIn K (.ref D) == some (.type "type")) = true then PySem.W.subIn K (.ref C) (.ref D) else none) = _
  rw [if_pos (by rw [g1, g.ty]; rfl)]
  show PySem.W.mroIn K C (.ref D) = _
  unfold PySem.W.mroIn
  rw [h1, Option.bind_some, h3, if_neg (show ¬ (Value.ref C :: l).isEmpty = true from Bool.false_ne_true), List.contains_cons, b', Bool.false_or]
theorem kit_own {K : PySem.W.Frag} {C : Addr} : PySem.W.kitOne K (.ref C) (.ref C) = some true := if_pos (beq_self_eq_true _)
theorem kit_ve {K : PySem.W.Frag} {n : Str} {C : Addr} {l : List Value} (h : ErC K n C l) (hl : l.contains (.type "ValueError") = true) : PySem.W.kitOne K (.ref C) (.type "ValueError") = some true := by
  obtain ⟨cd, h1, h2, h3⟩ := h.cd
  unfold PySem.W.kitOne
  rw [if_neg (fun z => by cases (beq_iff_eq.mp z))]
  show (if PySem.W.kitMeta "ValueError" = true then PySem.W.subIn K (.ref C) (.type "ValueError") else none) = _
  rw [if_pos (by decide +kernel)]
  show PySem.W.mroIn K C (.type "ValueError") = _
  unfold PySem.W.mroIn
  rw [h1, Option.bind_some, h3, if_neg (show ¬ (Value.ref C :: l).isEmpty = true from Bool.false_ne_true), List.contains_cons, hl, Bool.or_true]
theorem ErC.ne {K : PySem.W.Frag} {n m : Str} {C D : Addr} {l r : List Value} (h : ErC K n C l) (g : ErC K m D r) (hn : n ≠ m) : C ≠ D := fun z => by
  subst z
  obtain ⟨cd, h1, h2, h3⟩ := h.cd
  obtain ⟨cd', g1, g2, g3⟩ := g.cd
  rw [h1] at g1
  cases (Option.some.inj g1)
  exact hn (h2.symm.trans g2)
theorem paired_at1 {α β : Type} {R : α → β → Prop} : ∀ {xs : List α} {ys : List β}, Paired R xs ys → ∀ (i : Nat) x, xs[i]? = some x → ∃ y, ys[i]? = some y ∧ R x y
  | _, _, .nil, i, y, h => by simp at h
  | _, _, .cons h t, 0, y, q => ⟨_, rfl, by cases q; exact h⟩
  | _, _, .cons h t, i + 1, y, q => paired_at1 t i y (by simpa using q)
abbrev mroE (L : Addr) : List Value := .ref L :: PySem.HandSPX.veTail
theorem ve_ref (D : Addr) : PySem.HandSPX.veTail.contains (.ref D) = false := by
  show (Value.ref D == Value.type "ValueError" || (Value.ref D == Value.type "Exception" || (Value.ref D == Value.type "BaseException" || (Value.ref D == Value.type "object" || false)))) = false
  have h : ∀ s : String, (Value.ref D == Value.type s) = false := fun s => beq_eq_false_iff_ne.mpr (fun z => nomatch z)
  rw [h, h, h, h]
  rfl
theorem ve_ve : PySem.HandSPX.veTail.contains (.type "ValueError") = true := by decide +kernel
theorem erN_nd : erN.Nodup := by decide +kernel
theorem erN_L : ∀ n ∈ erN, n ≠ "LeafError" := by decide +kernel
theorem er_tab {K : PySem.W.Frag} {C_BadWord C_BadPassage C_BadCount C_BadCut C_BadSize C_BadEdition C_BadText C_BadDeed C_BadFault C_BadKinds C_TooMany C_BadMark C_BadJump C_BadRule C_OtherWork C_BadSetting C_Away C_LeafError : Addr} (P : Paired (fun C n => ErC K n C (mroE C_LeafError)) [C_BadWord, C_BadPassage, C_BadCount, C_BadCut, C_BadSize, C_BadEdition, C_BadText, C_BadDeed, C_BadFault, C_BadKinds, C_TooMany, C_BadMark, C_BadJump, C_BadRule, C_OtherWork, C_BadSetting, C_Away] erN) (hL : ErC K "LeafError" C_LeafError PySem.HandSPX.veTail)
    (N : Paired (fun C g => PySem.W.findIn K (.ref C) g = some none) [C_BadWord, C_BadPassage, C_BadCount, C_BadCut, C_BadSize, C_BadEdition, C_BadText, C_BadDeed, C_BadFault, C_BadKinds, C_TooMany, C_BadMark, C_BadJump] erF) (n1 : PySem.W.findIn K (.ref C_BadRule) "index" = some none) (n2 : PySem.W.findIn K (.ref C_BadRule) "reason" = some none) : ErTab K [C_BadWord, C_BadPassage, C_BadCount, C_BadCut, C_BadSize, C_BadEdition, C_BadText, C_BadDeed, C_BadFault, C_BadKinds, C_TooMany, C_BadMark, C_BadJump, C_BadRule, C_OtherWork, C_BadSetting, C_Away] C_LeafError := by
  have at_ : ∀ C ∈ ([C_BadWord, C_BadPassage, C_BadCount, C_BadCut, C_BadSize, C_BadEdition, C_BadText, C_BadDeed, C_BadFault, C_BadKinds, C_TooMany, C_BadMark, C_BadJump, C_BadRule, C_OtherWork, C_BadSetting, C_Away] : List Addr), ∃ n, n ∈ erN ∧ ErC K n C (mroE C_LeafError) := fun C h => by
    obtain ⟨i, hi, rfl⟩ := List.mem_iff_getElem.mp h
    obtain ⟨n, hn, e⟩ := paired_at1 P i _ (List.getElem?_eq_getElem hi)
    exact ⟨n, List.mem_of_getElem? hn, e⟩
  exact {
    is := fun C h => let ⟨n, _, e⟩ := at_ C h; e.is
    x := fun C h => let ⟨n, _, e⟩ := at_ C h; e.x
    kit := fun i j C D hC hD => by
      obtain ⟨n, hn, e⟩ := paired_at1 P i _ hC
      obtain ⟨m, hm, g⟩ := paired_at1 P j _ hD
      by_cases z : j = i
      · subst z
        rw [hC] at hD
        cases (Option.some.inj hD)
        rw [decide_eq_true rfl]
        exact kit_own
      · rw [decide_eq_false z]
        have hnm : n ≠ m := fun q => by
          subst q
          exact z (nodup_ix erN_nd hm hn)
        have hDL : D ≠ C_LeafError := g.ne hL (erN_L m (List.mem_of_getElem? hm))
        rw [kit_sub e g (e.ne g hnm)]
        show some (Value.ref D == Value.ref C_LeafError || PySem.HandSPX.veTail.contains (.ref D)) = _
        rw [ve_ref, beq_eq_false_iff_ne.mpr fun z => hDL (Value.ref.inj z)]
        rfl
    kL := fun C h => by
      obtain ⟨n, hn, e⟩ := at_ C h
      rw [kit_sub e hL (e.ne hL (erN_L n hn))]
      show some (Value.ref C_LeafError == Value.ref C_LeafError || _) = _
      rw [beq_self_eq_true]
      rfl
    kV := fun C h => by
      obtain ⟨n, hn, e⟩ := at_ C h
      exact kit_ve e (by rw [List.contains_cons, ve_ve, Bool.or_true])
    no := fun k C g hC hg => by
      obtain ⟨C', h1, h2⟩ := paired_at N k g hg
      have hk : k < 13 := (List.getElem?_eq_some_iff.mp hg).1
      have e : ([C_BadWord, C_BadPassage, C_BadCount, C_BadCut, C_BadSize, C_BadEdition, C_BadText, C_BadDeed, C_BadFault, C_BadKinds, C_TooMany, C_BadMark, C_BadJump, C_BadRule, C_OtherWork, C_BadSetting, C_Away] : List Addr) = [C_BadWord, C_BadPassage, C_BadCount, C_BadCut, C_BadSize, C_BadEdition, C_BadText, C_BadDeed, C_BadFault, C_BadKinds, C_TooMany, C_BadMark, C_BadJump] ++ [C_BadRule, C_OtherWork, C_BadSetting, C_Away] := rfl
      rw [e, List.getElem?_append_left hk] at hC
      rw [hC] at h1
      cases (Option.some.inj h1)
      exact h2
    noI := fun C h => by
      cases (Option.some.inj h)
      exact ⟨n1, n2⟩
    isL := hL.is
    kitL := fun j D hD => by
      obtain ⟨m, hm, g⟩ := paired_at1 P j _ hD
      rw [kit_sub hL g (g.ne hL (erN_L m (List.mem_of_getElem? hm))).symm, ve_ref]
    kLL := kit_own
    kLV := kit_ve hL ve_ve }
end Lm

namespace Lm
open PySem L2
theorem all_mk {l : PySem.W.OpenLaw} {w : World} {K : PySem.W.Frag} {h : Heap} {mg : Str → Option Value} {fa C_BadWord C_BadPassage C_BadCount C_BadCut C_BadSize C_BadEdition C_BadText C_BadDeed C_BadFault C_BadKinds C_TooMany C_BadMark C_BadJump C_BadRule C_OtherWork C_BadSetting C_Away C_LeafError f_fresh f_fill f_take f_one f_same f_any f_BadWordinit f_BadPassageinit f_BadCountinit f_BadCutinit f_BadSizeinit f_BadEditioninit f_BadTextinit f_BadDeedinit f_BadFaultinit f_BadKindsinit f_TooManyinit f_BadMarkinit f_BadJumpinit f_BadRuleinit f_made f_field f_classes f_changed f_law : Addr} (X : K.In h) (G : h.Ns mainGlobals mg) (hfa : mg "law" = some (.ref fa))
    {od_fresh an_fresh od_fill an_fill od_take an_take od_one an_one od_same an_same od_any an_any od_BadWordinit an_BadWordinit od_BadPassageinit an_BadPassageinit od_BadCountinit an_BadCountinit od_BadCutinit an_BadCutinit od_BadSizeinit an_BadSizeinit od_BadEditioninit an_BadEditioninit od_BadTextinit an_BadTextinit od_BadDeedinit an_BadDeedinit od_BadFaultinit an_BadFaultinit od_BadKindsinit an_BadKindsinit od_TooManyinit an_TooManyinit od_BadMarkinit an_BadMarkinit od_BadJumpinit an_BadJumpinit od_BadRuleinit an_BadRuleinit od_made an_made od_field an_field od_classes an_classes od_changed an_changed od_law an_law : Option Addr} {sl_fresh sl_fill sl_take sl_one sl_same sl_any sl_BadWordinit sl_BadPassageinit sl_BadCountinit sl_BadCutinit sl_BadSizeinit sl_BadEditioninit sl_BadTextinit sl_BadDeedinit sl_BadFaultinit sl_BadKindsinit sl_TooManyinit sl_BadMarkinit sl_BadJumpinit sl_BadRuleinit sl_made sl_field sl_classes sl_changed sl_law : Array (Option Value)} {oc_fresh kV_fresh dc_fresh pm_fresh cd_fresh ct_fresh oc_fill kV_fill dc_fill pm_fill cd_fill ct_fill oc_take kV_take dc_take pm_take cd_take ct_take oc_one kV_one dc_one pm_one cd_one ct_one oc_same kV_same dc_same pm_same cd_same ct_same oc_any kV_any dc_any pm_any cd_any ct_any oc_BadWordinit kV_BadWordinit dc_BadWordinit pm_BadWordinit cd_BadWordinit ct_BadWordinit oc_BadPassageinit kV_BadPassageinit dc_BadPassageinit pm_BadPassageinit cd_BadPassageinit ct_BadPassageinit oc_BadCountinit kV_BadCountinit dc_BadCountinit pm_BadCountinit cd_BadCountinit ct_BadCountinit oc_BadCutinit kV_BadCutinit dc_BadCutinit pm_BadCutinit cd_BadCutinit ct_BadCutinit oc_BadSizeinit kV_BadSizeinit dc_BadSizeinit pm_BadSizeinit cd_BadSizeinit ct_BadSizeinit oc_BadEditioninit kV_BadEditioninit dc_BadEditioninit pm_BadEditioninit cd_BadEditioninit ct_BadEditioninit oc_BadTextinit kV_BadTextinit dc_BadTextinit pm_BadTextinit cd_BadTextinit ct_BadTextinit oc_BadDeedinit kV_BadDeedinit dc_BadDeedinit pm_BadDeedinit cd_BadDeedinit ct_BadDeedinit oc_BadFaultinit kV_BadFaultinit dc_BadFaultinit pm_BadFaultinit cd_BadFaultinit ct_BadFaultinit oc_BadKindsinit kV_BadKindsinit dc_BadKindsinit pm_BadKindsinit cd_BadKindsinit ct_BadKindsinit oc_TooManyinit kV_TooManyinit dc_TooManyinit pm_TooManyinit cd_TooManyinit ct_TooManyinit oc_BadMarkinit kV_BadMarkinit dc_BadMarkinit pm_BadMarkinit cd_BadMarkinit ct_BadMarkinit oc_BadJumpinit kV_BadJumpinit dc_BadJumpinit pm_BadJumpinit cd_BadJumpinit ct_BadJumpinit oc_BadRuleinit kV_BadRuleinit dc_BadRuleinit pm_BadRuleinit cd_BadRuleinit ct_BadRuleinit oc_made kV_made dc_made pm_made cd_made ct_made oc_field kV_field dc_field pm_field cd_field ct_field oc_classes kV_classes dc_classes pm_classes cd_classes ct_classes oc_changed kV_changed dc_changed pm_changed cd_changed ct_changed oc_law kV_law dc_law pm_law cd_law ct_law : Value}
    {qBadWord : Str} {NBadWord : Addr} {bsBadWord : List Value} {snBadWord : List Str} {subBadWord : List Value} {abBadWord : Bool} {colBadWord : Option Bool} {ddBadWord : Option Addr} {k0BadWord k1BadWord k2BadWord k3BadWord k5BadWord : Option Value} {qBadPassage : Str} {NBadPassage : Addr} {bsBadPassage : List Value} {snBadPassage : List Str} {subBadPassage : List Value} {abBadPassage : Bool} {colBadPassage : Option Bool} {ddBadPassage : Option Addr} {k0BadPassage k1BadPassage k2BadPassage k3BadPassage k5BadPassage : Option Value} {qBadCount : Str} {NBadCount : Addr} {bsBadCount : List Value} {snBadCount : List Str} {subBadCount : List Value} {abBadCount : Bool} {colBadCount : Option Bool} {ddBadCount : Option Addr} {k0BadCount k1BadCount k2BadCount k3BadCount k5BadCount : Option Value} {qBadCut : Str} {NBadCut : Addr} {bsBadCut : List Value} {snBadCut : List Str} {subBadCut : List Value} {abBadCut : Bool} {colBadCut : Option Bool} {ddBadCut : Option Addr} {k0BadCut k1BadCut k2BadCut k3BadCut k5BadCut : Option Value} {qBadSize : Str} {NBadSize : Addr} {bsBadSize : List Value} {snBadSize : List Str} {subBadSize : List Value} {abBadSize : Bool} {colBadSize : Option Bool} {ddBadSize : Option Addr} {k0BadSize k1BadSize k2BadSize k3BadSize k5BadSize : Option Value} {qBadEdition : Str} {NBadEdition : Addr} {bsBadEdition : List Value} {snBadEdition : List Str} {subBadEdition : List Value} {abBadEdition : Bool} {colBadEdition : Option Bool} {ddBadEdition : Option Addr} {k0BadEdition k1BadEdition k2BadEdition k3BadEdition k5BadEdition : Option Value} {qBadText : Str} {NBadText : Addr} {bsBadText : List Value} {snBadText : List Str} {subBadText : List Value} {abBadText : Bool} {colBadText : Option Bool} {ddBadText : Option Addr} {k0BadText k1BadText k2BadText k3BadText k5BadText : Option Value} {qBadDeed : Str} {NBadDeed : Addr} {bsBadDeed : List Value} {snBadDeed : List Str} {subBadDeed : List Value} {abBadDeed : Bool} {colBadDeed : Option Bool} {ddBadDeed : Option Addr} {k0BadDeed k1BadDeed k2BadDeed k3BadDeed k5BadDeed : Option Value} {qBadFault : Str} {NBadFault : Addr} {bsBadFault : List Value} {snBadFault : List Str} {subBadFault : List Value} {abBadFault : Bool} {colBadFault : Option Bool} {ddBadFault : Option Addr} {k0BadFault k1BadFault k2BadFault k3BadFault k5BadFault : Option Value} {qBadKinds : Str} {NBadKinds : Addr} {bsBadKinds : List Value} {snBadKinds : List Str} {subBadKinds : List Value} {abBadKinds : Bool} {colBadKinds : Option Bool} {ddBadKinds : Option Addr} {k0BadKinds k1BadKinds k2BadKinds k3BadKinds k5BadKinds : Option Value} {qTooMany : Str} {NTooMany : Addr} {bsTooMany : List Value} {snTooMany : List Str} {subTooMany : List Value} {abTooMany : Bool} {colTooMany : Option Bool} {ddTooMany : Option Addr} {k0TooMany k1TooMany k2TooMany k3TooMany k5TooMany : Option Value} {qBadMark : Str} {NBadMark : Addr} {bsBadMark : List Value} {snBadMark : List Str} {subBadMark : List Value} {abBadMark : Bool} {colBadMark : Option Bool} {ddBadMark : Option Addr} {k0BadMark k1BadMark k2BadMark k3BadMark k5BadMark : Option Value} {qBadJump : Str} {NBadJump : Addr} {bsBadJump : List Value} {snBadJump : List Str} {subBadJump : List Value} {abBadJump : Bool} {colBadJump : Option Bool} {ddBadJump : Option Addr} {k0BadJump k1BadJump k2BadJump k3BadJump k5BadJump : Option Value} {qBadRule : Str} {NBadRule : Addr} {bsBadRule : List Value} {snBadRule : List Str} {subBadRule : List Value} {abBadRule : Bool} {colBadRule : Option Bool} {ddBadRule : Option Addr} {k0BadRule k1BadRule k2BadRule k3BadRule k5BadRule : Option Value} {qOtherWork : Str} {NOtherWork : Addr} {bsOtherWork : List Value} {snOtherWork : List Str} {subOtherWork : List Value} {abOtherWork : Bool} {colOtherWork : Option Bool} {ddOtherWork : Option Addr} {k0OtherWork k1OtherWork k2OtherWork k3OtherWork k5OtherWork : Option Value} {qBadSetting : Str} {NBadSetting : Addr} {bsBadSetting : List Value} {snBadSetting : List Str} {subBadSetting : List Value} {abBadSetting : Bool} {colBadSetting : Option Bool} {ddBadSetting : Option Addr} {k0BadSetting k1BadSetting k2BadSetting k3BadSetting k5BadSetting : Option Value} {qAway : Str} {NAway : Addr} {bsAway : List Value} {snAway : List Str} {subAway : List Value} {abAway : Bool} {colAway : Option Bool} {ddAway : Option Addr} {k0Away k1Away k2Away k3Away k5Away : Option Value} {qLeafError : Str} {NLeafError : Addr} {bsLeafError : List Value} {snLeafError : List Str} {subLeafError : List Value} {abLeafError : Bool} {colLeafError : Option Bool} {ddLeafError : Option Addr} {k0LeafError k1LeafError k2LeafError k3LeafError k5LeafError : Option Value}
    (a_fresh : PySem.W.nsIn K mainGlobals "_law_fresh" = some (some (.ref f_fresh)))
    (l_fresh : K.lookup f_fresh = some ⟨oc_fresh, od_fresh, .func (PySem.W.fnOf "_law_fresh" "_law_fresh" (defArgs s_fresh) (defBody s_fresh) (defScope s_fresh) .none kV_fresh dc_fresh pm_fresh an_fresh cd_fresh ct_fresh), sl_fresh⟩)
    (c_fresh : PySem.W.codeIn K cd_fresh "_law_fresh" = true)
    (k_fresh : PySem.W.keepIn K (.ref f_fresh) = true)
    (a_fill : PySem.W.nsIn K mainGlobals "_law_fill" = some (some (.ref f_fill)))
    (l_fill : K.lookup f_fill = some ⟨oc_fill, od_fill, .func (PySem.W.fnOf "_law_fill" "_law_fill" (defArgs s_fill) (defBody s_fill) (defScope s_fill) .none kV_fill dc_fill pm_fill an_fill cd_fill ct_fill), sl_fill⟩)
    (c_fill : PySem.W.codeIn K cd_fill "_law_fill" = true)
    (k_fill : PySem.W.keepIn K (.ref f_fill) = true)
    (a_take : PySem.W.nsIn K mainGlobals "_law_take" = some (some (.ref f_take)))
    (l_take : K.lookup f_take = some ⟨oc_take, od_take, .func (PySem.W.fnOf "_law_take" "_law_take" (defArgs s_take) (defBody s_take) (defScope s_take) .none kV_take dc_take pm_take an_take cd_take ct_take), sl_take⟩)
    (c_take : PySem.W.codeIn K cd_take "_law_take" = true)
    (k_take : PySem.W.keepIn K (.ref f_take) = true)
    (a_one : PySem.W.nsIn K mainGlobals "_law_one" = some (some (.ref f_one)))
    (l_one : K.lookup f_one = some ⟨oc_one, od_one, .func (PySem.W.fnOf "_law_one" "_law_one" (defArgs s_one) (defBody s_one) (defScope s_one) .none kV_one dc_one pm_one an_one cd_one ct_one), sl_one⟩)
    (c_one : PySem.W.codeIn K cd_one "_law_one" = true)
    (k_one : PySem.W.keepIn K (.ref f_one) = true)
    (a_same : PySem.W.nsIn K mainGlobals "_law_same" = some (some (.ref f_same)))
    (l_same : K.lookup f_same = some ⟨oc_same, od_same, .func (PySem.W.fnOf "_law_same" "_law_same" (defArgs s_same) (defBody s_same) (defScope s_same) .none kV_same dc_same pm_same an_same cd_same ct_same), sl_same⟩)
    (c_same : PySem.W.codeIn K cd_same "_law_same" = true)
    (k_same : PySem.W.keepIn K (.ref f_same) = true)
    (a_any : PySem.W.nsIn K mainGlobals "_law_any" = some (some (.ref f_any)))
    (l_any : K.lookup f_any = some ⟨oc_any, od_any, .func (PySem.W.fnOf "_law_any" "_law_any" (defArgs s_any) (defBody s_any) (defScope s_any) .none kV_any dc_any pm_any an_any cd_any ct_any), sl_any⟩)
    (c_any : PySem.W.codeIn K cd_any "_law_any" = true)
    (k_any : PySem.W.keepIn K (.ref f_any) = true)
    (aBadWord : PySem.W.nsIn K mainGlobals "BadWord" = some (some (.ref C_BadWord)))
    (oBadWord : K.lookup C_BadWord = some (excClassObj "BadWord" qBadWord C_BadWord NBadWord bsBadWord (mroE C_LeafError) true snBadWord subBadWord abBadWord colBadWord ddBadWord k0BadWord k1BadWord k2BadWord k3BadWord k5BadWord "ValueError.__new__"))
    (rBadWord : PySem.HandSPX.refsVE (mroE C_LeafError) = true)
    (sBadWord : PySem.W.findIn K (.ref C_BadWord) "__setattr__" = some (some (.builtin "object.__setattr__")))
    (bBadWord : PySem.W.subIn K (.ref C_BadWord) (.type "BaseException") = some true)
    (tBadWord : PySem.W.typeIn K (.ref C_BadWord) = some (.type "type"))
    (kBadWord : PySem.W.keepIn K (.ref C_BadWord) = true)
    (gaBadWord : PySem.W.findIn K (.ref C_BadWord) "__getattribute__" = some (some (.builtin "BaseException.__getattribute__")))
    (ggBadWord : PySem.W.findIn K (.ref C_BadWord) "__getattr__" = some none)
    (hdBadWord : PySem.W.hasDictIn K C_BadWord = true)
    (iBadWord : PySem.W.findIn K (.ref C_BadWord) "__init__" = some (some (.ref f_BadWordinit)))
    (tyBadWord : PySem.W.typeIn K (.ref f_BadWordinit) = some (.type "function"))
    (noBadWord : PySem.W.findIn K (.ref C_BadWord) "word" = some none)
    (icBadWord : PySem.W.isClsIn K C_BadWord = true)
    (seBadWord : PySem.W.subIn K (.ref C_BadWord) (.ref C_BadWord) = some true)
    (caBadWord : PySem.W.findIn K (.ref C_BadWord) "__class__" = some (some (.builtin "object.__class__")))
    (obBadWord : PySem.W.mroIn K C_BadWord (.type "object") = some true)
    (l_BadWordinit : K.lookup f_BadWordinit = some ⟨oc_BadWordinit, od_BadWordinit, .func (PySem.W.fnOf "__init__" "BadWord.__init__" (defArgs s_BadWord_init) (defBody s_BadWord_init) (defScope s_BadWord_init) .none kV_BadWordinit dc_BadWordinit pm_BadWordinit an_BadWordinit cd_BadWordinit ct_BadWordinit), sl_BadWordinit⟩)
    (c_BadWordinit : PySem.W.codeIn K cd_BadWordinit "BadWord.__init__" = true)
    (k_BadWordinit : PySem.W.keepIn K (.ref f_BadWordinit) = true)
    (aBadPassage : PySem.W.nsIn K mainGlobals "BadPassage" = some (some (.ref C_BadPassage)))
    (oBadPassage : K.lookup C_BadPassage = some (excClassObj "BadPassage" qBadPassage C_BadPassage NBadPassage bsBadPassage (mroE C_LeafError) true snBadPassage subBadPassage abBadPassage colBadPassage ddBadPassage k0BadPassage k1BadPassage k2BadPassage k3BadPassage k5BadPassage "ValueError.__new__"))
    (rBadPassage : PySem.HandSPX.refsVE (mroE C_LeafError) = true)
    (sBadPassage : PySem.W.findIn K (.ref C_BadPassage) "__setattr__" = some (some (.builtin "object.__setattr__")))
    (bBadPassage : PySem.W.subIn K (.ref C_BadPassage) (.type "BaseException") = some true)
    (tBadPassage : PySem.W.typeIn K (.ref C_BadPassage) = some (.type "type"))
    (kBadPassage : PySem.W.keepIn K (.ref C_BadPassage) = true)
    (gaBadPassage : PySem.W.findIn K (.ref C_BadPassage) "__getattribute__" = some (some (.builtin "BaseException.__getattribute__")))
    (ggBadPassage : PySem.W.findIn K (.ref C_BadPassage) "__getattr__" = some none)
    (hdBadPassage : PySem.W.hasDictIn K C_BadPassage = true)
    (iBadPassage : PySem.W.findIn K (.ref C_BadPassage) "__init__" = some (some (.ref f_BadPassageinit)))
    (tyBadPassage : PySem.W.typeIn K (.ref f_BadPassageinit) = some (.type "function"))
    (noBadPassage : PySem.W.findIn K (.ref C_BadPassage) "index" = some none)
    (icBadPassage : PySem.W.isClsIn K C_BadPassage = true)
    (seBadPassage : PySem.W.subIn K (.ref C_BadPassage) (.ref C_BadPassage) = some true)
    (caBadPassage : PySem.W.findIn K (.ref C_BadPassage) "__class__" = some (some (.builtin "object.__class__")))
    (obBadPassage : PySem.W.mroIn K C_BadPassage (.type "object") = some true)
    (l_BadPassageinit : K.lookup f_BadPassageinit = some ⟨oc_BadPassageinit, od_BadPassageinit, .func (PySem.W.fnOf "__init__" "BadPassage.__init__" (defArgs s_BadPassage_init) (defBody s_BadPassage_init) (defScope s_BadPassage_init) .none kV_BadPassageinit dc_BadPassageinit pm_BadPassageinit an_BadPassageinit cd_BadPassageinit ct_BadPassageinit), sl_BadPassageinit⟩)
    (c_BadPassageinit : PySem.W.codeIn K cd_BadPassageinit "BadPassage.__init__" = true)
    (k_BadPassageinit : PySem.W.keepIn K (.ref f_BadPassageinit) = true)
    (aBadCount : PySem.W.nsIn K mainGlobals "BadCount" = some (some (.ref C_BadCount)))
    (oBadCount : K.lookup C_BadCount = some (excClassObj "BadCount" qBadCount C_BadCount NBadCount bsBadCount (mroE C_LeafError) true snBadCount subBadCount abBadCount colBadCount ddBadCount k0BadCount k1BadCount k2BadCount k3BadCount k5BadCount "ValueError.__new__"))
    (rBadCount : PySem.HandSPX.refsVE (mroE C_LeafError) = true)
    (sBadCount : PySem.W.findIn K (.ref C_BadCount) "__setattr__" = some (some (.builtin "object.__setattr__")))
    (bBadCount : PySem.W.subIn K (.ref C_BadCount) (.type "BaseException") = some true)
    (tBadCount : PySem.W.typeIn K (.ref C_BadCount) = some (.type "type"))
    (kBadCount : PySem.W.keepIn K (.ref C_BadCount) = true)
    (gaBadCount : PySem.W.findIn K (.ref C_BadCount) "__getattribute__" = some (some (.builtin "BaseException.__getattribute__")))
    (ggBadCount : PySem.W.findIn K (.ref C_BadCount) "__getattr__" = some none)
    (hdBadCount : PySem.W.hasDictIn K C_BadCount = true)
    (iBadCount : PySem.W.findIn K (.ref C_BadCount) "__init__" = some (some (.ref f_BadCountinit)))
    (tyBadCount : PySem.W.typeIn K (.ref f_BadCountinit) = some (.type "function"))
    (noBadCount : PySem.W.findIn K (.ref C_BadCount) "count" = some none)
    (icBadCount : PySem.W.isClsIn K C_BadCount = true)
    (seBadCount : PySem.W.subIn K (.ref C_BadCount) (.ref C_BadCount) = some true)
    (caBadCount : PySem.W.findIn K (.ref C_BadCount) "__class__" = some (some (.builtin "object.__class__")))
    (obBadCount : PySem.W.mroIn K C_BadCount (.type "object") = some true)
    (l_BadCountinit : K.lookup f_BadCountinit = some ⟨oc_BadCountinit, od_BadCountinit, .func (PySem.W.fnOf "__init__" "BadCount.__init__" (defArgs s_BadCount_init) (defBody s_BadCount_init) (defScope s_BadCount_init) .none kV_BadCountinit dc_BadCountinit pm_BadCountinit an_BadCountinit cd_BadCountinit ct_BadCountinit), sl_BadCountinit⟩)
    (c_BadCountinit : PySem.W.codeIn K cd_BadCountinit "BadCount.__init__" = true)
    (k_BadCountinit : PySem.W.keepIn K (.ref f_BadCountinit) = true)
    (aBadCut : PySem.W.nsIn K mainGlobals "BadCut" = some (some (.ref C_BadCut)))
    (oBadCut : K.lookup C_BadCut = some (excClassObj "BadCut" qBadCut C_BadCut NBadCut bsBadCut (mroE C_LeafError) true snBadCut subBadCut abBadCut colBadCut ddBadCut k0BadCut k1BadCut k2BadCut k3BadCut k5BadCut "ValueError.__new__"))
    (rBadCut : PySem.HandSPX.refsVE (mroE C_LeafError) = true)
    (sBadCut : PySem.W.findIn K (.ref C_BadCut) "__setattr__" = some (some (.builtin "object.__setattr__")))
    (bBadCut : PySem.W.subIn K (.ref C_BadCut) (.type "BaseException") = some true)
    (tBadCut : PySem.W.typeIn K (.ref C_BadCut) = some (.type "type"))
    (kBadCut : PySem.W.keepIn K (.ref C_BadCut) = true)
    (gaBadCut : PySem.W.findIn K (.ref C_BadCut) "__getattribute__" = some (some (.builtin "BaseException.__getattribute__")))
    (ggBadCut : PySem.W.findIn K (.ref C_BadCut) "__getattr__" = some none)
    (hdBadCut : PySem.W.hasDictIn K C_BadCut = true)
    (iBadCut : PySem.W.findIn K (.ref C_BadCut) "__init__" = some (some (.ref f_BadCutinit)))
    (tyBadCut : PySem.W.typeIn K (.ref f_BadCutinit) = some (.type "function"))
    (noBadCut : PySem.W.findIn K (.ref C_BadCut) "number" = some none)
    (icBadCut : PySem.W.isClsIn K C_BadCut = true)
    (seBadCut : PySem.W.subIn K (.ref C_BadCut) (.ref C_BadCut) = some true)
    (caBadCut : PySem.W.findIn K (.ref C_BadCut) "__class__" = some (some (.builtin "object.__class__")))
    (obBadCut : PySem.W.mroIn K C_BadCut (.type "object") = some true)
    (l_BadCutinit : K.lookup f_BadCutinit = some ⟨oc_BadCutinit, od_BadCutinit, .func (PySem.W.fnOf "__init__" "BadCut.__init__" (defArgs s_BadCut_init) (defBody s_BadCut_init) (defScope s_BadCut_init) .none kV_BadCutinit dc_BadCutinit pm_BadCutinit an_BadCutinit cd_BadCutinit ct_BadCutinit), sl_BadCutinit⟩)
    (c_BadCutinit : PySem.W.codeIn K cd_BadCutinit "BadCut.__init__" = true)
    (k_BadCutinit : PySem.W.keepIn K (.ref f_BadCutinit) = true)
    (aBadSize : PySem.W.nsIn K mainGlobals "BadSize" = some (some (.ref C_BadSize)))
    (oBadSize : K.lookup C_BadSize = some (excClassObj "BadSize" qBadSize C_BadSize NBadSize bsBadSize (mroE C_LeafError) true snBadSize subBadSize abBadSize colBadSize ddBadSize k0BadSize k1BadSize k2BadSize k3BadSize k5BadSize "ValueError.__new__"))
    (rBadSize : PySem.HandSPX.refsVE (mroE C_LeafError) = true)
    (sBadSize : PySem.W.findIn K (.ref C_BadSize) "__setattr__" = some (some (.builtin "object.__setattr__")))
    (bBadSize : PySem.W.subIn K (.ref C_BadSize) (.type "BaseException") = some true)
    (tBadSize : PySem.W.typeIn K (.ref C_BadSize) = some (.type "type"))
    (kBadSize : PySem.W.keepIn K (.ref C_BadSize) = true)
    (gaBadSize : PySem.W.findIn K (.ref C_BadSize) "__getattribute__" = some (some (.builtin "BaseException.__getattribute__")))
    (ggBadSize : PySem.W.findIn K (.ref C_BadSize) "__getattr__" = some none)
    (hdBadSize : PySem.W.hasDictIn K C_BadSize = true)
    (iBadSize : PySem.W.findIn K (.ref C_BadSize) "__init__" = some (some (.ref f_BadSizeinit)))
    (tyBadSize : PySem.W.typeIn K (.ref f_BadSizeinit) = some (.type "function"))
    (noBadSize : PySem.W.findIn K (.ref C_BadSize) "size" = some none)
    (icBadSize : PySem.W.isClsIn K C_BadSize = true)
    (seBadSize : PySem.W.subIn K (.ref C_BadSize) (.ref C_BadSize) = some true)
    (caBadSize : PySem.W.findIn K (.ref C_BadSize) "__class__" = some (some (.builtin "object.__class__")))
    (obBadSize : PySem.W.mroIn K C_BadSize (.type "object") = some true)
    (l_BadSizeinit : K.lookup f_BadSizeinit = some ⟨oc_BadSizeinit, od_BadSizeinit, .func (PySem.W.fnOf "__init__" "BadSize.__init__" (defArgs s_BadSize_init) (defBody s_BadSize_init) (defScope s_BadSize_init) .none kV_BadSizeinit dc_BadSizeinit pm_BadSizeinit an_BadSizeinit cd_BadSizeinit ct_BadSizeinit), sl_BadSizeinit⟩)
    (c_BadSizeinit : PySem.W.codeIn K cd_BadSizeinit "BadSize.__init__" = true)
    (k_BadSizeinit : PySem.W.keepIn K (.ref f_BadSizeinit) = true)
    (aBadEdition : PySem.W.nsIn K mainGlobals "BadEdition" = some (some (.ref C_BadEdition)))
    (oBadEdition : K.lookup C_BadEdition = some (excClassObj "BadEdition" qBadEdition C_BadEdition NBadEdition bsBadEdition (mroE C_LeafError) true snBadEdition subBadEdition abBadEdition colBadEdition ddBadEdition k0BadEdition k1BadEdition k2BadEdition k3BadEdition k5BadEdition "ValueError.__new__"))
    (rBadEdition : PySem.HandSPX.refsVE (mroE C_LeafError) = true)
    (sBadEdition : PySem.W.findIn K (.ref C_BadEdition) "__setattr__" = some (some (.builtin "object.__setattr__")))
    (bBadEdition : PySem.W.subIn K (.ref C_BadEdition) (.type "BaseException") = some true)
    (tBadEdition : PySem.W.typeIn K (.ref C_BadEdition) = some (.type "type"))
    (kBadEdition : PySem.W.keepIn K (.ref C_BadEdition) = true)
    (gaBadEdition : PySem.W.findIn K (.ref C_BadEdition) "__getattribute__" = some (some (.builtin "BaseException.__getattribute__")))
    (ggBadEdition : PySem.W.findIn K (.ref C_BadEdition) "__getattr__" = some none)
    (hdBadEdition : PySem.W.hasDictIn K C_BadEdition = true)
    (iBadEdition : PySem.W.findIn K (.ref C_BadEdition) "__init__" = some (some (.ref f_BadEditioninit)))
    (tyBadEdition : PySem.W.typeIn K (.ref f_BadEditioninit) = some (.type "function"))
    (noBadEdition : PySem.W.findIn K (.ref C_BadEdition) "index" = some none)
    (icBadEdition : PySem.W.isClsIn K C_BadEdition = true)
    (seBadEdition : PySem.W.subIn K (.ref C_BadEdition) (.ref C_BadEdition) = some true)
    (caBadEdition : PySem.W.findIn K (.ref C_BadEdition) "__class__" = some (some (.builtin "object.__class__")))
    (obBadEdition : PySem.W.mroIn K C_BadEdition (.type "object") = some true)
    (l_BadEditioninit : K.lookup f_BadEditioninit = some ⟨oc_BadEditioninit, od_BadEditioninit, .func (PySem.W.fnOf "__init__" "BadEdition.__init__" (defArgs s_BadEdition_init) (defBody s_BadEdition_init) (defScope s_BadEdition_init) .none kV_BadEditioninit dc_BadEditioninit pm_BadEditioninit an_BadEditioninit cd_BadEditioninit ct_BadEditioninit), sl_BadEditioninit⟩)
    (c_BadEditioninit : PySem.W.codeIn K cd_BadEditioninit "BadEdition.__init__" = true)
    (k_BadEditioninit : PySem.W.keepIn K (.ref f_BadEditioninit) = true)
    (aBadText : PySem.W.nsIn K mainGlobals "BadText" = some (some (.ref C_BadText)))
    (oBadText : K.lookup C_BadText = some (excClassObj "BadText" qBadText C_BadText NBadText bsBadText (mroE C_LeafError) true snBadText subBadText abBadText colBadText ddBadText k0BadText k1BadText k2BadText k3BadText k5BadText "ValueError.__new__"))
    (rBadText : PySem.HandSPX.refsVE (mroE C_LeafError) = true)
    (sBadText : PySem.W.findIn K (.ref C_BadText) "__setattr__" = some (some (.builtin "object.__setattr__")))
    (bBadText : PySem.W.subIn K (.ref C_BadText) (.type "BaseException") = some true)
    (tBadText : PySem.W.typeIn K (.ref C_BadText) = some (.type "type"))
    (kBadText : PySem.W.keepIn K (.ref C_BadText) = true)
    (gaBadText : PySem.W.findIn K (.ref C_BadText) "__getattribute__" = some (some (.builtin "BaseException.__getattribute__")))
    (ggBadText : PySem.W.findIn K (.ref C_BadText) "__getattr__" = some none)
    (hdBadText : PySem.W.hasDictIn K C_BadText = true)
    (iBadText : PySem.W.findIn K (.ref C_BadText) "__init__" = some (some (.ref f_BadTextinit)))
    (tyBadText : PySem.W.typeIn K (.ref f_BadTextinit) = some (.type "function"))
    (noBadText : PySem.W.findIn K (.ref C_BadText) "line" = some none)
    (icBadText : PySem.W.isClsIn K C_BadText = true)
    (seBadText : PySem.W.subIn K (.ref C_BadText) (.ref C_BadText) = some true)
    (caBadText : PySem.W.findIn K (.ref C_BadText) "__class__" = some (some (.builtin "object.__class__")))
    (obBadText : PySem.W.mroIn K C_BadText (.type "object") = some true)
    (l_BadTextinit : K.lookup f_BadTextinit = some ⟨oc_BadTextinit, od_BadTextinit, .func (PySem.W.fnOf "__init__" "BadText.__init__" (defArgs s_BadText_init) (defBody s_BadText_init) (defScope s_BadText_init) .none kV_BadTextinit dc_BadTextinit pm_BadTextinit an_BadTextinit cd_BadTextinit ct_BadTextinit), sl_BadTextinit⟩)
    (c_BadTextinit : PySem.W.codeIn K cd_BadTextinit "BadText.__init__" = true)
    (k_BadTextinit : PySem.W.keepIn K (.ref f_BadTextinit) = true)
    (aBadDeed : PySem.W.nsIn K mainGlobals "BadDeed" = some (some (.ref C_BadDeed)))
    (oBadDeed : K.lookup C_BadDeed = some (excClassObj "BadDeed" qBadDeed C_BadDeed NBadDeed bsBadDeed (mroE C_LeafError) true snBadDeed subBadDeed abBadDeed colBadDeed ddBadDeed k0BadDeed k1BadDeed k2BadDeed k3BadDeed k5BadDeed "ValueError.__new__"))
    (rBadDeed : PySem.HandSPX.refsVE (mroE C_LeafError) = true)
    (sBadDeed : PySem.W.findIn K (.ref C_BadDeed) "__setattr__" = some (some (.builtin "object.__setattr__")))
    (bBadDeed : PySem.W.subIn K (.ref C_BadDeed) (.type "BaseException") = some true)
    (tBadDeed : PySem.W.typeIn K (.ref C_BadDeed) = some (.type "type"))
    (kBadDeed : PySem.W.keepIn K (.ref C_BadDeed) = true)
    (gaBadDeed : PySem.W.findIn K (.ref C_BadDeed) "__getattribute__" = some (some (.builtin "BaseException.__getattribute__")))
    (ggBadDeed : PySem.W.findIn K (.ref C_BadDeed) "__getattr__" = some none)
    (hdBadDeed : PySem.W.hasDictIn K C_BadDeed = true)
    (iBadDeed : PySem.W.findIn K (.ref C_BadDeed) "__init__" = some (some (.ref f_BadDeedinit)))
    (tyBadDeed : PySem.W.typeIn K (.ref f_BadDeedinit) = some (.type "function"))
    (noBadDeed : PySem.W.findIn K (.ref C_BadDeed) "index" = some none)
    (icBadDeed : PySem.W.isClsIn K C_BadDeed = true)
    (seBadDeed : PySem.W.subIn K (.ref C_BadDeed) (.ref C_BadDeed) = some true)
    (caBadDeed : PySem.W.findIn K (.ref C_BadDeed) "__class__" = some (some (.builtin "object.__class__")))
    (obBadDeed : PySem.W.mroIn K C_BadDeed (.type "object") = some true)
    (l_BadDeedinit : K.lookup f_BadDeedinit = some ⟨oc_BadDeedinit, od_BadDeedinit, .func (PySem.W.fnOf "__init__" "BadDeed.__init__" (defArgs s_BadDeed_init) (defBody s_BadDeed_init) (defScope s_BadDeed_init) .none kV_BadDeedinit dc_BadDeedinit pm_BadDeedinit an_BadDeedinit cd_BadDeedinit ct_BadDeedinit), sl_BadDeedinit⟩)
    (c_BadDeedinit : PySem.W.codeIn K cd_BadDeedinit "BadDeed.__init__" = true)
    (k_BadDeedinit : PySem.W.keepIn K (.ref f_BadDeedinit) = true)
    (aBadFault : PySem.W.nsIn K mainGlobals "BadFault" = some (some (.ref C_BadFault)))
    (oBadFault : K.lookup C_BadFault = some (excClassObj "BadFault" qBadFault C_BadFault NBadFault bsBadFault (mroE C_LeafError) true snBadFault subBadFault abBadFault colBadFault ddBadFault k0BadFault k1BadFault k2BadFault k3BadFault k5BadFault "ValueError.__new__"))
    (rBadFault : PySem.HandSPX.refsVE (mroE C_LeafError) = true)
    (sBadFault : PySem.W.findIn K (.ref C_BadFault) "__setattr__" = some (some (.builtin "object.__setattr__")))
    (bBadFault : PySem.W.subIn K (.ref C_BadFault) (.type "BaseException") = some true)
    (tBadFault : PySem.W.typeIn K (.ref C_BadFault) = some (.type "type"))
    (kBadFault : PySem.W.keepIn K (.ref C_BadFault) = true)
    (gaBadFault : PySem.W.findIn K (.ref C_BadFault) "__getattribute__" = some (some (.builtin "BaseException.__getattribute__")))
    (ggBadFault : PySem.W.findIn K (.ref C_BadFault) "__getattr__" = some none)
    (hdBadFault : PySem.W.hasDictIn K C_BadFault = true)
    (iBadFault : PySem.W.findIn K (.ref C_BadFault) "__init__" = some (some (.ref f_BadFaultinit)))
    (tyBadFault : PySem.W.typeIn K (.ref f_BadFaultinit) = some (.type "function"))
    (noBadFault : PySem.W.findIn K (.ref C_BadFault) "fault" = some none)
    (icBadFault : PySem.W.isClsIn K C_BadFault = true)
    (seBadFault : PySem.W.subIn K (.ref C_BadFault) (.ref C_BadFault) = some true)
    (caBadFault : PySem.W.findIn K (.ref C_BadFault) "__class__" = some (some (.builtin "object.__class__")))
    (obBadFault : PySem.W.mroIn K C_BadFault (.type "object") = some true)
    (l_BadFaultinit : K.lookup f_BadFaultinit = some ⟨oc_BadFaultinit, od_BadFaultinit, .func (PySem.W.fnOf "__init__" "BadFault.__init__" (defArgs s_BadFault_init) (defBody s_BadFault_init) (defScope s_BadFault_init) .none kV_BadFaultinit dc_BadFaultinit pm_BadFaultinit an_BadFaultinit cd_BadFaultinit ct_BadFaultinit), sl_BadFaultinit⟩)
    (c_BadFaultinit : PySem.W.codeIn K cd_BadFaultinit "BadFault.__init__" = true)
    (k_BadFaultinit : PySem.W.keepIn K (.ref f_BadFaultinit) = true)
    (aBadKinds : PySem.W.nsIn K mainGlobals "BadKinds" = some (some (.ref C_BadKinds)))
    (oBadKinds : K.lookup C_BadKinds = some (excClassObj "BadKinds" qBadKinds C_BadKinds NBadKinds bsBadKinds (mroE C_LeafError) true snBadKinds subBadKinds abBadKinds colBadKinds ddBadKinds k0BadKinds k1BadKinds k2BadKinds k3BadKinds k5BadKinds "ValueError.__new__"))
    (rBadKinds : PySem.HandSPX.refsVE (mroE C_LeafError) = true)
    (sBadKinds : PySem.W.findIn K (.ref C_BadKinds) "__setattr__" = some (some (.builtin "object.__setattr__")))
    (bBadKinds : PySem.W.subIn K (.ref C_BadKinds) (.type "BaseException") = some true)
    (tBadKinds : PySem.W.typeIn K (.ref C_BadKinds) = some (.type "type"))
    (kBadKinds : PySem.W.keepIn K (.ref C_BadKinds) = true)
    (gaBadKinds : PySem.W.findIn K (.ref C_BadKinds) "__getattribute__" = some (some (.builtin "BaseException.__getattribute__")))
    (ggBadKinds : PySem.W.findIn K (.ref C_BadKinds) "__getattr__" = some none)
    (hdBadKinds : PySem.W.hasDictIn K C_BadKinds = true)
    (iBadKinds : PySem.W.findIn K (.ref C_BadKinds) "__init__" = some (some (.ref f_BadKindsinit)))
    (tyBadKinds : PySem.W.typeIn K (.ref f_BadKindsinit) = some (.type "function"))
    (noBadKinds : PySem.W.findIn K (.ref C_BadKinds) "kinds" = some none)
    (icBadKinds : PySem.W.isClsIn K C_BadKinds = true)
    (seBadKinds : PySem.W.subIn K (.ref C_BadKinds) (.ref C_BadKinds) = some true)
    (caBadKinds : PySem.W.findIn K (.ref C_BadKinds) "__class__" = some (some (.builtin "object.__class__")))
    (obBadKinds : PySem.W.mroIn K C_BadKinds (.type "object") = some true)
    (l_BadKindsinit : K.lookup f_BadKindsinit = some ⟨oc_BadKindsinit, od_BadKindsinit, .func (PySem.W.fnOf "__init__" "BadKinds.__init__" (defArgs s_BadKinds_init) (defBody s_BadKinds_init) (defScope s_BadKinds_init) .none kV_BadKindsinit dc_BadKindsinit pm_BadKindsinit an_BadKindsinit cd_BadKindsinit ct_BadKindsinit), sl_BadKindsinit⟩)
    (c_BadKindsinit : PySem.W.codeIn K cd_BadKindsinit "BadKinds.__init__" = true)
    (k_BadKindsinit : PySem.W.keepIn K (.ref f_BadKindsinit) = true)
    (aTooMany : PySem.W.nsIn K mainGlobals "TooMany" = some (some (.ref C_TooMany)))
    (oTooMany : K.lookup C_TooMany = some (excClassObj "TooMany" qTooMany C_TooMany NTooMany bsTooMany (mroE C_LeafError) true snTooMany subTooMany abTooMany colTooMany ddTooMany k0TooMany k1TooMany k2TooMany k3TooMany k5TooMany "ValueError.__new__"))
    (rTooMany : PySem.HandSPX.refsVE (mroE C_LeafError) = true)
    (sTooMany : PySem.W.findIn K (.ref C_TooMany) "__setattr__" = some (some (.builtin "object.__setattr__")))
    (bTooMany : PySem.W.subIn K (.ref C_TooMany) (.type "BaseException") = some true)
    (tTooMany : PySem.W.typeIn K (.ref C_TooMany) = some (.type "type"))
    (kTooMany : PySem.W.keepIn K (.ref C_TooMany) = true)
    (gaTooMany : PySem.W.findIn K (.ref C_TooMany) "__getattribute__" = some (some (.builtin "BaseException.__getattribute__")))
    (ggTooMany : PySem.W.findIn K (.ref C_TooMany) "__getattr__" = some none)
    (hdTooMany : PySem.W.hasDictIn K C_TooMany = true)
    (iTooMany : PySem.W.findIn K (.ref C_TooMany) "__init__" = some (some (.ref f_TooManyinit)))
    (tyTooMany : PySem.W.typeIn K (.ref f_TooManyinit) = some (.type "function"))
    (noTooMany : PySem.W.findIn K (.ref C_TooMany) "most" = some none)
    (icTooMany : PySem.W.isClsIn K C_TooMany = true)
    (seTooMany : PySem.W.subIn K (.ref C_TooMany) (.ref C_TooMany) = some true)
    (caTooMany : PySem.W.findIn K (.ref C_TooMany) "__class__" = some (some (.builtin "object.__class__")))
    (obTooMany : PySem.W.mroIn K C_TooMany (.type "object") = some true)
    (l_TooManyinit : K.lookup f_TooManyinit = some ⟨oc_TooManyinit, od_TooManyinit, .func (PySem.W.fnOf "__init__" "TooMany.__init__" (defArgs s_TooMany_init) (defBody s_TooMany_init) (defScope s_TooMany_init) .none kV_TooManyinit dc_TooManyinit pm_TooManyinit an_TooManyinit cd_TooManyinit ct_TooManyinit), sl_TooManyinit⟩)
    (c_TooManyinit : PySem.W.codeIn K cd_TooManyinit "TooMany.__init__" = true)
    (k_TooManyinit : PySem.W.keepIn K (.ref f_TooManyinit) = true)
    (aBadMark : PySem.W.nsIn K mainGlobals "BadMark" = some (some (.ref C_BadMark)))
    (oBadMark : K.lookup C_BadMark = some (excClassObj "BadMark" qBadMark C_BadMark NBadMark bsBadMark (mroE C_LeafError) true snBadMark subBadMark abBadMark colBadMark ddBadMark k0BadMark k1BadMark k2BadMark k3BadMark k5BadMark "ValueError.__new__"))
    (rBadMark : PySem.HandSPX.refsVE (mroE C_LeafError) = true)
    (sBadMark : PySem.W.findIn K (.ref C_BadMark) "__setattr__" = some (some (.builtin "object.__setattr__")))
    (bBadMark : PySem.W.subIn K (.ref C_BadMark) (.type "BaseException") = some true)
    (tBadMark : PySem.W.typeIn K (.ref C_BadMark) = some (.type "type"))
    (kBadMark : PySem.W.keepIn K (.ref C_BadMark) = true)
    (gaBadMark : PySem.W.findIn K (.ref C_BadMark) "__getattribute__" = some (some (.builtin "BaseException.__getattribute__")))
    (ggBadMark : PySem.W.findIn K (.ref C_BadMark) "__getattr__" = some none)
    (hdBadMark : PySem.W.hasDictIn K C_BadMark = true)
    (iBadMark : PySem.W.findIn K (.ref C_BadMark) "__init__" = some (some (.ref f_BadMarkinit)))
    (tyBadMark : PySem.W.typeIn K (.ref f_BadMarkinit) = some (.type "function"))
    (noBadMark : PySem.W.findIn K (.ref C_BadMark) "mark" = some none)
    (icBadMark : PySem.W.isClsIn K C_BadMark = true)
    (seBadMark : PySem.W.subIn K (.ref C_BadMark) (.ref C_BadMark) = some true)
    (caBadMark : PySem.W.findIn K (.ref C_BadMark) "__class__" = some (some (.builtin "object.__class__")))
    (obBadMark : PySem.W.mroIn K C_BadMark (.type "object") = some true)
    (l_BadMarkinit : K.lookup f_BadMarkinit = some ⟨oc_BadMarkinit, od_BadMarkinit, .func (PySem.W.fnOf "__init__" "BadMark.__init__" (defArgs s_BadMark_init) (defBody s_BadMark_init) (defScope s_BadMark_init) .none kV_BadMarkinit dc_BadMarkinit pm_BadMarkinit an_BadMarkinit cd_BadMarkinit ct_BadMarkinit), sl_BadMarkinit⟩)
    (c_BadMarkinit : PySem.W.codeIn K cd_BadMarkinit "BadMark.__init__" = true)
    (k_BadMarkinit : PySem.W.keepIn K (.ref f_BadMarkinit) = true)
    (aBadJump : PySem.W.nsIn K mainGlobals "BadJump" = some (some (.ref C_BadJump)))
    (oBadJump : K.lookup C_BadJump = some (excClassObj "BadJump" qBadJump C_BadJump NBadJump bsBadJump (mroE C_LeafError) true snBadJump subBadJump abBadJump colBadJump ddBadJump k0BadJump k1BadJump k2BadJump k3BadJump k5BadJump "ValueError.__new__"))
    (rBadJump : PySem.HandSPX.refsVE (mroE C_LeafError) = true)
    (sBadJump : PySem.W.findIn K (.ref C_BadJump) "__setattr__" = some (some (.builtin "object.__setattr__")))
    (bBadJump : PySem.W.subIn K (.ref C_BadJump) (.type "BaseException") = some true)
    (tBadJump : PySem.W.typeIn K (.ref C_BadJump) = some (.type "type"))
    (kBadJump : PySem.W.keepIn K (.ref C_BadJump) = true)
    (gaBadJump : PySem.W.findIn K (.ref C_BadJump) "__getattribute__" = some (some (.builtin "BaseException.__getattribute__")))
    (ggBadJump : PySem.W.findIn K (.ref C_BadJump) "__getattr__" = some none)
    (hdBadJump : PySem.W.hasDictIn K C_BadJump = true)
    (iBadJump : PySem.W.findIn K (.ref C_BadJump) "__init__" = some (some (.ref f_BadJumpinit)))
    (tyBadJump : PySem.W.typeIn K (.ref f_BadJumpinit) = some (.type "function"))
    (noBadJump : PySem.W.findIn K (.ref C_BadJump) "thing" = some none)
    (icBadJump : PySem.W.isClsIn K C_BadJump = true)
    (seBadJump : PySem.W.subIn K (.ref C_BadJump) (.ref C_BadJump) = some true)
    (caBadJump : PySem.W.findIn K (.ref C_BadJump) "__class__" = some (some (.builtin "object.__class__")))
    (obBadJump : PySem.W.mroIn K C_BadJump (.type "object") = some true)
    (l_BadJumpinit : K.lookup f_BadJumpinit = some ⟨oc_BadJumpinit, od_BadJumpinit, .func (PySem.W.fnOf "__init__" "BadJump.__init__" (defArgs s_BadJump_init) (defBody s_BadJump_init) (defScope s_BadJump_init) .none kV_BadJumpinit dc_BadJumpinit pm_BadJumpinit an_BadJumpinit cd_BadJumpinit ct_BadJumpinit), sl_BadJumpinit⟩)
    (c_BadJumpinit : PySem.W.codeIn K cd_BadJumpinit "BadJump.__init__" = true)
    (k_BadJumpinit : PySem.W.keepIn K (.ref f_BadJumpinit) = true)
    (aBadRule : PySem.W.nsIn K mainGlobals "BadRule" = some (some (.ref C_BadRule)))
    (oBadRule : K.lookup C_BadRule = some (excClassObj "BadRule" qBadRule C_BadRule NBadRule bsBadRule (mroE C_LeafError) true snBadRule subBadRule abBadRule colBadRule ddBadRule k0BadRule k1BadRule k2BadRule k3BadRule k5BadRule "ValueError.__new__"))
    (rBadRule : PySem.HandSPX.refsVE (mroE C_LeafError) = true)
    (sBadRule : PySem.W.findIn K (.ref C_BadRule) "__setattr__" = some (some (.builtin "object.__setattr__")))
    (bBadRule : PySem.W.subIn K (.ref C_BadRule) (.type "BaseException") = some true)
    (tBadRule : PySem.W.typeIn K (.ref C_BadRule) = some (.type "type"))
    (kBadRule : PySem.W.keepIn K (.ref C_BadRule) = true)
    (gaBadRule : PySem.W.findIn K (.ref C_BadRule) "__getattribute__" = some (some (.builtin "BaseException.__getattribute__")))
    (ggBadRule : PySem.W.findIn K (.ref C_BadRule) "__getattr__" = some none)
    (hdBadRule : PySem.W.hasDictIn K C_BadRule = true)
    (iBadRule : PySem.W.findIn K (.ref C_BadRule) "__init__" = some (some (.ref f_BadRuleinit)))
    (tyBadRule : PySem.W.typeIn K (.ref f_BadRuleinit) = some (.type "function"))
    (icBadRule : PySem.W.isClsIn K C_BadRule = true)
    (seBadRule : PySem.W.subIn K (.ref C_BadRule) (.ref C_BadRule) = some true)
    (caBadRule : PySem.W.findIn K (.ref C_BadRule) "__class__" = some (some (.builtin "object.__class__")))
    (obBadRule : PySem.W.mroIn K C_BadRule (.type "object") = some true)
    (noBadRule : PySem.W.findIn K (.ref C_BadRule) "index" = some none)
    (npBadRule : PySem.W.findIn K (.ref C_BadRule) "reason" = some none)
    (l_BadRuleinit : K.lookup f_BadRuleinit = some ⟨oc_BadRuleinit, od_BadRuleinit, .func (PySem.W.fnOf "__init__" "BadRule.__init__" (defArgs s_BadRule_init) (defBody s_BadRule_init) (defScope s_BadRule_init) .none kV_BadRuleinit dc_BadRuleinit pm_BadRuleinit an_BadRuleinit cd_BadRuleinit ct_BadRuleinit), sl_BadRuleinit⟩)
    (c_BadRuleinit : PySem.W.codeIn K cd_BadRuleinit "BadRule.__init__" = true)
    (k_BadRuleinit : PySem.W.keepIn K (.ref f_BadRuleinit) = true)
    (a_made : PySem.W.nsIn K mainGlobals "_law_made" = some (some (.ref f_made)))
    (l_made : K.lookup f_made = some ⟨oc_made, od_made, .func (PySem.W.fnOf "_law_made" "_law_made" (defArgs s_made) (defBody s_made) (defScope s_made) .none kV_made dc_made pm_made an_made cd_made ct_made), sl_made⟩)
    (c_made : PySem.W.codeIn K cd_made "_law_made" = true)
    (k_made : PySem.W.keepIn K (.ref f_made) = true)
    (a_field : PySem.W.nsIn K mainGlobals "_law_field" = some (some (.ref f_field)))
    (l_field : K.lookup f_field = some ⟨oc_field, od_field, .func (PySem.W.fnOf "_law_field" "_law_field" (defArgs s_field) (defBody s_field) (defScope s_field) .none kV_field dc_field pm_field an_field cd_field ct_field), sl_field⟩)
    (c_field : PySem.W.codeIn K cd_field "_law_field" = true)
    (k_field : PySem.W.keepIn K (.ref f_field) = true)
    (a_classes : PySem.W.nsIn K mainGlobals "_law_classes" = some (some (.ref f_classes)))
    (l_classes : K.lookup f_classes = some ⟨oc_classes, od_classes, .func (PySem.W.fnOf "_law_classes" "_law_classes" (defArgs s_classes) (defBody s_classes) (defScope s_classes) .none kV_classes dc_classes pm_classes an_classes cd_classes ct_classes), sl_classes⟩)
    (c_classes : PySem.W.codeIn K cd_classes "_law_classes" = true)
    (k_classes : PySem.W.keepIn K (.ref f_classes) = true)
    (a_changed : PySem.W.nsIn K mainGlobals "_law_changed" = some (some (.ref f_changed)))
    (l_changed : K.lookup f_changed = some ⟨oc_changed, od_changed, .func (PySem.W.fnOf "_law_changed" "_law_changed" (defArgs s_changed) (defBody s_changed) (defScope s_changed) .none kV_changed dc_changed pm_changed an_changed cd_changed ct_changed), sl_changed⟩)
    (c_changed : PySem.W.codeIn K cd_changed "_law_changed" = true)
    (k_changed : PySem.W.keepIn K (.ref f_changed) = true)
    (a_law : PySem.W.nsIn K mainGlobals "law" = some (some (.ref f_law)))
    (l_law : K.lookup f_law = some ⟨oc_law, od_law, .func (PySem.W.fnOf "law" "law" (defArgs s_law) (defBody s_law) (defScope s_law) .none kV_law dc_law pm_law an_law cd_law ct_law), sl_law⟩)
    (c_law : PySem.W.codeIn K cd_law "law" = true)
    (k_law : PySem.W.keepIn K (.ref f_law) = true)
    (z_len : PySem.W.nsIn K mainGlobals "len" = some none)
    (z_int : PySem.W.nsIn K mainGlobals "int" = some none)
    (z_range : PySem.W.nsIn K mainGlobals "range" = some none)
    (z_enumerate : PySem.W.nsIn K mainGlobals "enumerate" = some none)
    (z_isinstance : PySem.W.nsIn K mainGlobals "isinstance" = some none)
    (z_list : PySem.W.nsIn K mainGlobals "list" = some none)
    (z_tuple : PySem.W.nsIn K mainGlobals "tuple" = some none)
    (z_str : PySem.W.nsIn K mainGlobals "str" = some none)
    (z_bool : PySem.W.nsIn K mainGlobals "bool" = some none)
    (z_all : PySem.W.nsIn K mainGlobals "all" = some none)
    (z_max : PySem.W.nsIn K mainGlobals "max" = some none)
    (z_zip : PySem.W.nsIn K mainGlobals "zip" = some none)
    (aOtherWork : PySem.W.nsIn K mainGlobals "OtherWork" = some (some (.ref C_OtherWork)))
    (oOtherWork : K.lookup C_OtherWork = some (excClassObj "OtherWork" qOtherWork C_OtherWork NOtherWork bsOtherWork (mroE C_LeafError) true snOtherWork subOtherWork abOtherWork colOtherWork ddOtherWork k0OtherWork k1OtherWork k2OtherWork k3OtherWork k5OtherWork "ValueError.__new__"))
    (xOtherWork : PySem.W.excIn K C_OtherWork [.type "ValueError", .type "Exception", .type "BaseException", .type "object"] "ValueError.__new__" = true)
    (kOtherWork : PySem.W.keepIn K (.ref C_OtherWork) = true)
    (bOtherWork : PySem.W.subIn K (.ref C_OtherWork) (.type "BaseException") = some true)
    (tOtherWork : PySem.W.typeIn K (.ref C_OtherWork) = some (.type "type"))
    (icOtherWork : PySem.W.isClsIn K C_OtherWork = true)
    (seOtherWork : PySem.W.subIn K (.ref C_OtherWork) (.ref C_OtherWork) = some true)
    (gaOtherWork : PySem.W.findIn K (.ref C_OtherWork) "__getattribute__" = some (some (.builtin "BaseException.__getattribute__")))
    (ggOtherWork : PySem.W.findIn K (.ref C_OtherWork) "__getattr__" = some none)
    (hdOtherWork : PySem.W.hasDictIn K C_OtherWork = true)
    (caOtherWork : PySem.W.findIn K (.ref C_OtherWork) "__class__" = some (some (.builtin "object.__class__")))
    (obOtherWork : PySem.W.mroIn K C_OtherWork (.type "object") = some true)
    (aBadSetting : PySem.W.nsIn K mainGlobals "BadSetting" = some (some (.ref C_BadSetting)))
    (oBadSetting : K.lookup C_BadSetting = some (excClassObj "BadSetting" qBadSetting C_BadSetting NBadSetting bsBadSetting (mroE C_LeafError) true snBadSetting subBadSetting abBadSetting colBadSetting ddBadSetting k0BadSetting k1BadSetting k2BadSetting k3BadSetting k5BadSetting "ValueError.__new__"))
    (xBadSetting : PySem.W.excIn K C_BadSetting [.type "ValueError", .type "Exception", .type "BaseException", .type "object"] "ValueError.__new__" = true)
    (kBadSetting : PySem.W.keepIn K (.ref C_BadSetting) = true)
    (bBadSetting : PySem.W.subIn K (.ref C_BadSetting) (.type "BaseException") = some true)
    (tBadSetting : PySem.W.typeIn K (.ref C_BadSetting) = some (.type "type"))
    (icBadSetting : PySem.W.isClsIn K C_BadSetting = true)
    (seBadSetting : PySem.W.subIn K (.ref C_BadSetting) (.ref C_BadSetting) = some true)
    (gaBadSetting : PySem.W.findIn K (.ref C_BadSetting) "__getattribute__" = some (some (.builtin "BaseException.__getattribute__")))
    (ggBadSetting : PySem.W.findIn K (.ref C_BadSetting) "__getattr__" = some none)
    (hdBadSetting : PySem.W.hasDictIn K C_BadSetting = true)
    (caBadSetting : PySem.W.findIn K (.ref C_BadSetting) "__class__" = some (some (.builtin "object.__class__")))
    (obBadSetting : PySem.W.mroIn K C_BadSetting (.type "object") = some true)
    (aAway : PySem.W.nsIn K mainGlobals "Away" = some (some (.ref C_Away)))
    (oAway : K.lookup C_Away = some (excClassObj "Away" qAway C_Away NAway bsAway (mroE C_LeafError) true snAway subAway abAway colAway ddAway k0Away k1Away k2Away k3Away k5Away "ValueError.__new__"))
    (xAway : PySem.W.excIn K C_Away [.type "ValueError", .type "Exception", .type "BaseException", .type "object"] "ValueError.__new__" = true)
    (kAway : PySem.W.keepIn K (.ref C_Away) = true)
    (bAway : PySem.W.subIn K (.ref C_Away) (.type "BaseException") = some true)
    (tAway : PySem.W.typeIn K (.ref C_Away) = some (.type "type"))
    (icAway : PySem.W.isClsIn K C_Away = true)
    (seAway : PySem.W.subIn K (.ref C_Away) (.ref C_Away) = some true)
    (gaAway : PySem.W.findIn K (.ref C_Away) "__getattribute__" = some (some (.builtin "BaseException.__getattribute__")))
    (ggAway : PySem.W.findIn K (.ref C_Away) "__getattr__" = some none)
    (hdAway : PySem.W.hasDictIn K C_Away = true)
    (caAway : PySem.W.findIn K (.ref C_Away) "__class__" = some (some (.builtin "object.__class__")))
    (obAway : PySem.W.mroIn K C_Away (.type "object") = some true)
    (aLeafError : PySem.W.nsIn K mainGlobals "LeafError" = some (some (.ref C_LeafError)))
    (oLeafError : K.lookup C_LeafError = some (excClassObj "LeafError" qLeafError C_LeafError NLeafError bsLeafError PySem.HandSPX.veTail true snLeafError subLeafError abLeafError colLeafError ddLeafError k0LeafError k1LeafError k2LeafError k3LeafError k5LeafError "ValueError.__new__"))
    (xLeafError : PySem.W.excIn K C_LeafError [.type "ValueError", .type "Exception", .type "BaseException", .type "object"] "ValueError.__new__" = true)
    (kLeafError : PySem.W.keepIn K (.ref C_LeafError) = true)
    (bLeafError : PySem.W.subIn K (.ref C_LeafError) (.type "BaseException") = some true)
    (tLeafError : PySem.W.typeIn K (.ref C_LeafError) = some (.type "type"))
    (icLeafError : PySem.W.isClsIn K C_LeafError = true)
    (seLeafError : PySem.W.subIn K (.ref C_LeafError) (.ref C_LeafError) = some true)
    (gaLeafError : PySem.W.findIn K (.ref C_LeafError) "__getattribute__" = some (some (.builtin "BaseException.__getattribute__")))
    (ggLeafError : PySem.W.findIn K (.ref C_LeafError) "__getattr__" = some none)
    (hdLeafError : PySem.W.hasDictIn K C_LeafError = true)
    (caLeafError : PySem.W.findIn K (.ref C_LeafError) "__class__" = some (some (.builtin "object.__class__")))
    (obLeafError : PySem.W.mroIn K C_LeafError (.type "object") = some true)
    (hge : PySem.W.specialIn K (.builtin "object.__class__") "__get__" = some (some (.builtin "getset_descriptor.__get__")))
    (htk : PySem.W.takesIn K (.builtin "object.__class__") = some true)
    (zz_VE : PySem.W.nsIn K mainGlobals "ValueError" = some none)
    (zz_dict : PySem.W.nsIn K mainGlobals "dict" = some none)
    : ∃ fd : FuncData, (∀ (s : Shared) (v : Value), BindsTo s fd ⟨[v], []⟩ [("_law_script", v)]) ∧ ∀ base : Heap, K.In base → base.Ns mainGlobals mg → FnOk l.prog w K mg base CX0 14 fa fd ["_law_script"] (spLaw K) := by
  have e := hfa.symm.trans (PySem.W.mg_of X G a_law)
  cases e
  have T : Blt mg := ⟨PySem.W.mg_none_of X G z_len, PySem.W.mg_none_of X G z_int, PySem.W.mg_none_of X G z_range, PySem.W.mg_none_of X G z_enumerate, PySem.W.mg_none_of X G z_isinstance, PySem.W.mg_none_of X G z_list, PySem.W.mg_none_of X G z_tuple, PySem.W.mg_none_of X G z_str, PySem.W.mg_none_of X G z_bool, PySem.W.mg_none_of X G z_all, PySem.W.mg_none_of X G z_max, PySem.W.mg_none_of X G z_zip⟩
  have TE_BadWord : ErrF K mg "BadWord" C_BadWord f_BadWordinit "word" := ⟨PySem.W.mg_of X G aBadWord, ⟨⟨_, _, _, _, _, _, _, _, _, _, _, _, _, _, _, oBadWord, rBadWord⟩, sBadWord, bBadWord, tBadWord, kBadWord⟩, ⟨gaBadWord, ggBadWord, bBadWord, hdBadWord⟩, iBadWord, tyBadWord, noBadWord, icBadWord, seBadWord⟩
  have TE_BadPassage : ErrF K mg "BadPassage" C_BadPassage f_BadPassageinit "index" := ⟨PySem.W.mg_of X G aBadPassage, ⟨⟨_, _, _, _, _, _, _, _, _, _, _, _, _, _, _, oBadPassage, rBadPassage⟩, sBadPassage, bBadPassage, tBadPassage, kBadPassage⟩, ⟨gaBadPassage, ggBadPassage, bBadPassage, hdBadPassage⟩, iBadPassage, tyBadPassage, noBadPassage, icBadPassage, seBadPassage⟩
  have TE_BadCount : ErrF K mg "BadCount" C_BadCount f_BadCountinit "count" := ⟨PySem.W.mg_of X G aBadCount, ⟨⟨_, _, _, _, _, _, _, _, _, _, _, _, _, _, _, oBadCount, rBadCount⟩, sBadCount, bBadCount, tBadCount, kBadCount⟩, ⟨gaBadCount, ggBadCount, bBadCount, hdBadCount⟩, iBadCount, tyBadCount, noBadCount, icBadCount, seBadCount⟩
  have TE_BadCut : ErrF K mg "BadCut" C_BadCut f_BadCutinit "number" := ⟨PySem.W.mg_of X G aBadCut, ⟨⟨_, _, _, _, _, _, _, _, _, _, _, _, _, _, _, oBadCut, rBadCut⟩, sBadCut, bBadCut, tBadCut, kBadCut⟩, ⟨gaBadCut, ggBadCut, bBadCut, hdBadCut⟩, iBadCut, tyBadCut, noBadCut, icBadCut, seBadCut⟩
  have TE_BadSize : ErrF K mg "BadSize" C_BadSize f_BadSizeinit "size" := ⟨PySem.W.mg_of X G aBadSize, ⟨⟨_, _, _, _, _, _, _, _, _, _, _, _, _, _, _, oBadSize, rBadSize⟩, sBadSize, bBadSize, tBadSize, kBadSize⟩, ⟨gaBadSize, ggBadSize, bBadSize, hdBadSize⟩, iBadSize, tyBadSize, noBadSize, icBadSize, seBadSize⟩
  have TE_BadEdition : ErrF K mg "BadEdition" C_BadEdition f_BadEditioninit "index" := ⟨PySem.W.mg_of X G aBadEdition, ⟨⟨_, _, _, _, _, _, _, _, _, _, _, _, _, _, _, oBadEdition, rBadEdition⟩, sBadEdition, bBadEdition, tBadEdition, kBadEdition⟩, ⟨gaBadEdition, ggBadEdition, bBadEdition, hdBadEdition⟩, iBadEdition, tyBadEdition, noBadEdition, icBadEdition, seBadEdition⟩
  have TE_BadText : ErrF K mg "BadText" C_BadText f_BadTextinit "line" := ⟨PySem.W.mg_of X G aBadText, ⟨⟨_, _, _, _, _, _, _, _, _, _, _, _, _, _, _, oBadText, rBadText⟩, sBadText, bBadText, tBadText, kBadText⟩, ⟨gaBadText, ggBadText, bBadText, hdBadText⟩, iBadText, tyBadText, noBadText, icBadText, seBadText⟩
  have TE_BadDeed : ErrF K mg "BadDeed" C_BadDeed f_BadDeedinit "index" := ⟨PySem.W.mg_of X G aBadDeed, ⟨⟨_, _, _, _, _, _, _, _, _, _, _, _, _, _, _, oBadDeed, rBadDeed⟩, sBadDeed, bBadDeed, tBadDeed, kBadDeed⟩, ⟨gaBadDeed, ggBadDeed, bBadDeed, hdBadDeed⟩, iBadDeed, tyBadDeed, noBadDeed, icBadDeed, seBadDeed⟩
  have TE_BadFault : ErrF K mg "BadFault" C_BadFault f_BadFaultinit "fault" := ⟨PySem.W.mg_of X G aBadFault, ⟨⟨_, _, _, _, _, _, _, _, _, _, _, _, _, _, _, oBadFault, rBadFault⟩, sBadFault, bBadFault, tBadFault, kBadFault⟩, ⟨gaBadFault, ggBadFault, bBadFault, hdBadFault⟩, iBadFault, tyBadFault, noBadFault, icBadFault, seBadFault⟩
  have TE_BadKinds : ErrF K mg "BadKinds" C_BadKinds f_BadKindsinit "kinds" := ⟨PySem.W.mg_of X G aBadKinds, ⟨⟨_, _, _, _, _, _, _, _, _, _, _, _, _, _, _, oBadKinds, rBadKinds⟩, sBadKinds, bBadKinds, tBadKinds, kBadKinds⟩, ⟨gaBadKinds, ggBadKinds, bBadKinds, hdBadKinds⟩, iBadKinds, tyBadKinds, noBadKinds, icBadKinds, seBadKinds⟩
  have TE_TooMany : ErrF K mg "TooMany" C_TooMany f_TooManyinit "most" := ⟨PySem.W.mg_of X G aTooMany, ⟨⟨_, _, _, _, _, _, _, _, _, _, _, _, _, _, _, oTooMany, rTooMany⟩, sTooMany, bTooMany, tTooMany, kTooMany⟩, ⟨gaTooMany, ggTooMany, bTooMany, hdTooMany⟩, iTooMany, tyTooMany, noTooMany, icTooMany, seTooMany⟩
  have TE_BadMark : ErrF K mg "BadMark" C_BadMark f_BadMarkinit "mark" := ⟨PySem.W.mg_of X G aBadMark, ⟨⟨_, _, _, _, _, _, _, _, _, _, _, _, _, _, _, oBadMark, rBadMark⟩, sBadMark, bBadMark, tBadMark, kBadMark⟩, ⟨gaBadMark, ggBadMark, bBadMark, hdBadMark⟩, iBadMark, tyBadMark, noBadMark, icBadMark, seBadMark⟩
  have TE_BadJump : ErrF K mg "BadJump" C_BadJump f_BadJumpinit "thing" := ⟨PySem.W.mg_of X G aBadJump, ⟨⟨_, _, _, _, _, _, _, _, _, _, _, _, _, _, _, oBadJump, rBadJump⟩, sBadJump, bBadJump, tBadJump, kBadJump⟩, ⟨gaBadJump, ggBadJump, bBadJump, hdBadJump⟩, iBadJump, tyBadJump, noBadJump, icBadJump, seBadJump⟩
  have TE_BadRule : ErrF2 K mg "BadRule" C_BadRule f_BadRuleinit "index" "reason" := ⟨PySem.W.mg_of X G aBadRule, ⟨⟨_, _, _, _, _, _, _, _, _, _, _, _, _, _, _, oBadRule, rBadRule⟩, sBadRule, bBadRule, tBadRule, kBadRule⟩, ⟨gaBadRule, ggBadRule, bBadRule, hdBadRule⟩, iBadRule, tyBadRule, noBadRule, npBadRule, icBadRule, seBadRule⟩
  have T_OtherWork : ErrTxt K mg "OtherWork" C_OtherWork := ⟨PySem.W.mg_of X G aOtherWork, xOtherWork, kOtherWork, bOtherWork, tOtherWork, icOtherWork, seOtherWork⟩
  have T_BadSetting : ErrTxt K mg "BadSetting" C_BadSetting := ⟨PySem.W.mg_of X G aBadSetting, xBadSetting, kBadSetting, bBadSetting, tBadSetting, icBadSetting, seBadSetting⟩
  have T_Away : ErrTxt K mg "Away" C_Away := ⟨PySem.W.mg_of X G aAway, xAway, kAway, bAway, tAway, icAway, seAway⟩
  have T_LeafError : ErrTxt K mg "LeafError" C_LeafError := ⟨PySem.W.mg_of X G aLeafError, xLeafError, kLeafError, bLeafError, tLeafError, icLeafError, seLeafError⟩
  have TB := er_tab (.cons (erC_of oBadWord tBadWord gaBadWord ggBadWord bBadWord hdBadWord icBadWord caBadWord obBadWord hge htk) (.cons (erC_of oBadPassage tBadPassage gaBadPassage ggBadPassage bBadPassage hdBadPassage icBadPassage caBadPassage obBadPassage hge htk) (.cons (erC_of oBadCount tBadCount gaBadCount ggBadCount bBadCount hdBadCount icBadCount caBadCount obBadCount hge htk) (.cons (erC_of oBadCut tBadCut gaBadCut ggBadCut bBadCut hdBadCut icBadCut caBadCut obBadCut hge htk) (.cons (erC_of oBadSize tBadSize gaBadSize ggBadSize bBadSize hdBadSize icBadSize caBadSize obBadSize hge htk) (.cons (erC_of oBadEdition tBadEdition gaBadEdition ggBadEdition bBadEdition hdBadEdition icBadEdition caBadEdition obBadEdition hge htk) (.cons (erC_of oBadText tBadText gaBadText ggBadText bBadText hdBadText icBadText caBadText obBadText hge htk) (.cons (erC_of oBadDeed tBadDeed gaBadDeed ggBadDeed bBadDeed hdBadDeed icBadDeed caBadDeed obBadDeed hge htk) (.cons (erC_of oBadFault tBadFault gaBadFault ggBadFault bBadFault hdBadFault icBadFault caBadFault obBadFault hge htk) (.cons (erC_of oBadKinds tBadKinds gaBadKinds ggBadKinds bBadKinds hdBadKinds icBadKinds caBadKinds obBadKinds hge htk) (.cons (erC_of oTooMany tTooMany gaTooMany ggTooMany bTooMany hdTooMany icTooMany caTooMany obTooMany hge htk) (.cons (erC_of oBadMark tBadMark gaBadMark ggBadMark bBadMark hdBadMark icBadMark caBadMark obBadMark hge htk) (.cons (erC_of oBadJump tBadJump gaBadJump ggBadJump bBadJump hdBadJump icBadJump caBadJump obBadJump hge htk) (.cons (erC_of oBadRule tBadRule gaBadRule ggBadRule bBadRule hdBadRule icBadRule caBadRule obBadRule hge htk) (.cons (erC_of oOtherWork tOtherWork gaOtherWork ggOtherWork bOtherWork hdOtherWork icOtherWork caOtherWork obOtherWork hge htk) (.cons (erC_of oBadSetting tBadSetting gaBadSetting ggBadSetting bBadSetting hdBadSetting icBadSetting caBadSetting obBadSetting hge htk) (.cons (erC_of oAway tAway gaAway ggAway bAway hdAway icAway caAway obAway hge htk) .nil))))))))))))))))) (erC_of oLeafError tLeafError gaLeafError ggLeafError bLeafError hdLeafError icLeafError caLeafError obLeafError hge htk) (.cons noBadWord (.cons noBadPassage (.cons noBadCount (.cons noBadCut (.cons noBadSize (.cons noBadEdition (.cons noBadText (.cons noBadDeed (.cons noBadFault (.cons noBadKinds (.cons noTooMany (.cons noBadMark (.cons noBadJump .nil))))))))))))) noBadRule npBadRule
  have TV : BltV mg := ⟨PySem.W.mg_none_of X G zz_VE, PySem.W.mg_none_of X G zz_dict⟩
  have F_fresh := fun_mk (st := s_fresh) l_fresh c_fresh k_fresh
  have b_fresh := F_fresh.binds (ps := ["_law_script"]) fun _ _ _ _ _ _ us hl => match us, hl with | [_], _ => rfl
  have F_fill := fun_mk (st := s_fill) l_fill c_fill k_fill
  have b_fill := F_fill.binds (ps := ["_law_state"]) fun _ _ _ _ _ _ us hl => match us, hl with | [_], _ => rfl
  have F_take := fun_mk (st := s_take) l_take c_take k_take
  have b_take := F_take.binds (ps := ["_law_state", "_law_many"]) fun _ _ _ _ _ _ us hl => match us, hl with | [_, _], _ => rfl
  have F_one := fun_mk (st := s_one) l_one c_one k_one
  have b_one := F_one.binds (ps := ["_law_state", "_law_things"]) fun _ _ _ _ _ _ us hl => match us, hl with | [_, _], _ => rfl
  have F_same := fun_mk (st := s_same) l_same c_same k_same
  have b_same := F_same.binds (ps := ["_law_found", "_law_due"]) fun _ _ _ _ _ _ us hl => match us, hl with | [_, _], _ => rfl
  have F_any := fun_mk (st := s_any) l_any c_any k_any
  have b_any := F_any.binds (ps := ["_law_state", "_law_deep"]) fun _ _ _ _ _ _ us hl => match us, hl with | [_, _], _ => rfl
  have F_BadWordinit := fun_mk (st := s_BadWord_init) l_BadWordinit c_BadWordinit k_BadWordinit
  have b_BadWordinit := F_BadWordinit.binds (ps := ["self", "word"]) fun _ _ _ _ _ _ us hl => match us, hl with | [_, _], _ => rfl
  have F_BadPassageinit := fun_mk (st := s_BadPassage_init) l_BadPassageinit c_BadPassageinit k_BadPassageinit
  have b_BadPassageinit := F_BadPassageinit.binds (ps := ["self", "index"]) fun _ _ _ _ _ _ us hl => match us, hl with | [_, _], _ => rfl
  have F_BadCountinit := fun_mk (st := s_BadCount_init) l_BadCountinit c_BadCountinit k_BadCountinit
  have b_BadCountinit := F_BadCountinit.binds (ps := ["self", "count"]) fun _ _ _ _ _ _ us hl => match us, hl with | [_, _], _ => rfl
  have F_BadCutinit := fun_mk (st := s_BadCut_init) l_BadCutinit c_BadCutinit k_BadCutinit
  have b_BadCutinit := F_BadCutinit.binds (ps := ["self", "number"]) fun _ _ _ _ _ _ us hl => match us, hl with | [_, _], _ => rfl
  have F_BadSizeinit := fun_mk (st := s_BadSize_init) l_BadSizeinit c_BadSizeinit k_BadSizeinit
  have b_BadSizeinit := F_BadSizeinit.binds (ps := ["self", "size"]) fun _ _ _ _ _ _ us hl => match us, hl with | [_, _], _ => rfl
  have F_BadEditioninit := fun_mk (st := s_BadEdition_init) l_BadEditioninit c_BadEditioninit k_BadEditioninit
  have b_BadEditioninit := F_BadEditioninit.binds (ps := ["self", "index"]) fun _ _ _ _ _ _ us hl => match us, hl with | [_, _], _ => rfl
  have F_BadTextinit := fun_mk (st := s_BadText_init) l_BadTextinit c_BadTextinit k_BadTextinit
  have b_BadTextinit := F_BadTextinit.binds (ps := ["self", "line"]) fun _ _ _ _ _ _ us hl => match us, hl with | [_, _], _ => rfl
  have F_BadDeedinit := fun_mk (st := s_BadDeed_init) l_BadDeedinit c_BadDeedinit k_BadDeedinit
  have b_BadDeedinit := F_BadDeedinit.binds (ps := ["self", "index"]) fun _ _ _ _ _ _ us hl => match us, hl with | [_, _], _ => rfl
  have F_BadFaultinit := fun_mk (st := s_BadFault_init) l_BadFaultinit c_BadFaultinit k_BadFaultinit
  have b_BadFaultinit := F_BadFaultinit.binds (ps := ["self", "fault"]) fun _ _ _ _ _ _ us hl => match us, hl with | [_, _], _ => rfl
  have F_BadKindsinit := fun_mk (st := s_BadKinds_init) l_BadKindsinit c_BadKindsinit k_BadKindsinit
  have b_BadKindsinit := F_BadKindsinit.binds (ps := ["self", "kinds"]) fun _ _ _ _ _ _ us hl => match us, hl with | [_, _], _ => rfl
  have F_TooManyinit := fun_mk (st := s_TooMany_init) l_TooManyinit c_TooManyinit k_TooManyinit
  have b_TooManyinit := F_TooManyinit.binds (ps := ["self", "most"]) fun _ _ _ _ _ _ us hl => match us, hl with | [_, _], _ => rfl
  have F_BadMarkinit := fun_mk (st := s_BadMark_init) l_BadMarkinit c_BadMarkinit k_BadMarkinit
  have b_BadMarkinit := F_BadMarkinit.binds (ps := ["self", "mark"]) fun _ _ _ _ _ _ us hl => match us, hl with | [_, _], _ => rfl
  have F_BadJumpinit := fun_mk (st := s_BadJump_init) l_BadJumpinit c_BadJumpinit k_BadJumpinit
  have b_BadJumpinit := F_BadJumpinit.binds (ps := ["self", "thing"]) fun _ _ _ _ _ _ us hl => match us, hl with | [_, _], _ => rfl
  have F_BadRuleinit := fun_mk (st := s_BadRule_init) l_BadRuleinit c_BadRuleinit k_BadRuleinit
  have b_BadRuleinit := F_BadRuleinit.binds (ps := ["self", "index", "reason"]) fun _ _ _ _ _ _ us hl => match us, hl with | [_, _, _], _ => rfl
  have F_made := fun_mk (st := s_made) l_made c_made k_made
  have b_made := F_made.binds (ps := ["_law_k", "_law_x", "_law_named"]) fun _ _ _ _ _ _ us hl => match us, hl with | [_, _, _], _ => rfl
  have F_field := fun_mk (st := s_field) l_field c_field k_field
  have b_field := F_field.binds (ps := ["_law_e", "_law_k"]) fun _ _ _ _ _ _ us hl => match us, hl with | [_, _], _ => rfl
  have F_classes := fun_mk (st := s_classes) l_classes c_classes k_classes
  have b_classes := F_classes.binds (ps := ["_law_e"]) fun _ _ _ _ _ _ us hl => match us, hl with | [_], _ => rfl
  have F_changed := fun_mk (st := s_changed) l_changed c_changed k_changed
  have b_changed := F_changed.binds (ps := ["_law_x"]) fun _ _ _ _ _ _ us hl => match us, hl with | [_], _ => rfl
  have F_law := fun_mk (st := s_law) l_law c_law k_law
  refine ⟨PySem.W.fnOf "law" "law" (defArgs s_law) (defBody s_law) (defScope s_law) .none kV_law dc_law pm_law an_law cd_law ct_law, fun s v => .of_eq rfl, fun base _ _ => ?_⟩
  have O_fresh : FnOk l.prog w K mg base CX0 1 f_fresh _ ["_law_script"] (spFresh K) := ok_fresh F_fresh T
  have D_fresh : DefOk l.prog w K mg base 1 "_law_fresh" f_fresh _ ["_law_script"] (spFresh K) := ⟨O_fresh, k_fresh, b_fresh, PySem.W.mg_of X G a_fresh⟩
  have O_fill : FnOk l.prog w K mg base CX0 1 f_fill _ ["_law_state"] spFill := ok_fill F_fill T
  have D_fill : DefOk l.prog w K mg base 1 "_law_fill" f_fill _ ["_law_state"] spFill := ⟨O_fill, k_fill, b_fill, PySem.W.mg_of X G a_fill⟩
  have O_take : FnOk l.prog w K mg base CX0 2 f_take _ ["_law_state", "_law_many"] spTake := ok_take F_take T D_fill
  have D_take : DefOk l.prog w K mg base 2 "_law_take" f_take _ ["_law_state", "_law_many"] spTake := ⟨O_take, k_take, b_take, PySem.W.mg_of X G a_take⟩
  have O_one : FnOk l.prog w K mg base CX0 3 f_one _ ["_law_state", "_law_things"] (spOneA K) := ok_oneA F_one T D_take
  have D_one : DefOk l.prog w K mg base 3 "_law_one" f_one _ ["_law_state", "_law_things"] (spOneA K) := ⟨O_one, k_one, b_one, PySem.W.mg_of X G a_one⟩
  have O_same : FnOk l.prog w K mg base CX0 5 f_same _ ["_law_found", "_law_due"] (spSame 5) := (ok_same (d := 4) F_same T ⟨(ok_same (d := 3) F_same T ⟨(ok_same (d := 2) F_same T ⟨(ok_same (d := 1) F_same T ⟨(ok_same (d := 0) F_same T ⟨(ok_none.imp fun _ _ _ _ ⟨_, _, _, h, _⟩ => h.elim), k_same, b_same, PySem.W.mg_of X G a_same⟩), k_same, b_same, PySem.W.mg_of X G a_same⟩), k_same, b_same, PySem.W.mg_of X G a_same⟩), k_same, b_same, PySem.W.mg_of X G a_same⟩), k_same, b_same, PySem.W.mg_of X G a_same⟩)
  have D_same : DefOk l.prog w K mg base 5 "_law_same" f_same _ ["_law_found", "_law_due"] (spSame 5) := ⟨O_same, k_same, b_same, PySem.W.mg_of X G a_same⟩
  have O_any : FnOk l.prog w K mg base CX0 12 f_any _ ["_law_state", "_law_deep"] (spAny 3) := (ok_any (d := 2) (k := 8) F_any T TV D_take D_one ⟨(ok_any (d := 1) (k := 4) F_any T TV D_take D_one ⟨(ok_any (d := 0) (k := 0) F_any T TV D_take D_one ⟨(ok_none (k := 0)), k_any, b_any, PySem.W.mg_of X G a_any⟩), k_any, b_any, PySem.W.mg_of X G a_any⟩), k_any, b_any, PySem.W.mg_of X G a_any⟩)
  have D_any : DefOk l.prog w K mg base 12 "_law_any" f_any _ ["_law_state", "_law_deep"] (spAny 3) := ⟨O_any, k_any, b_any, PySem.W.mg_of X G a_any⟩
  have O_BadWordinit : FnOk l.prog w K mg base CX0 1 f_BadWordinit _ ["self", "word"] (spErrI C_BadWord "word") := ok_bad_word F_BadWordinit TE_BadWord.T TE_BadWord.no
  have IE_BadWord : ErrI l.prog w K mg base C_BadWord f_BadWordinit _ "word" := ⟨O_BadWordinit, b_BadWordinit⟩
  have V_BadWord := ErrF.v TE_BadWord IE_BadWord
  have BK_BadWord : KBn K _ ["self", "word"] 1 ["word"] oneR oneR := Lm.Fun.kone F_BadWordinit fun _ _ _ _ _ _ _ _ => rfl
  have O_BadPassageinit : FnOk l.prog w K mg base CX0 1 f_BadPassageinit _ ["self", "index"] (spErrI C_BadPassage "index") := ok_bad_passage F_BadPassageinit TE_BadPassage.T TE_BadPassage.no
  have IE_BadPassage : ErrI l.prog w K mg base C_BadPassage f_BadPassageinit _ "index" := ⟨O_BadPassageinit, b_BadPassageinit⟩
  have V_BadPassage := ErrF.v TE_BadPassage IE_BadPassage
  have BK_BadPassage : KBn K _ ["self", "index"] 1 ["index"] oneR oneR := Lm.Fun.kone F_BadPassageinit fun _ _ _ _ _ _ _ _ => rfl
  have O_BadCountinit : FnOk l.prog w K mg base CX0 1 f_BadCountinit _ ["self", "count"] (spErrI C_BadCount "count") := ok_bad_count F_BadCountinit TE_BadCount.T TE_BadCount.no
  have IE_BadCount : ErrI l.prog w K mg base C_BadCount f_BadCountinit _ "count" := ⟨O_BadCountinit, b_BadCountinit⟩
  have V_BadCount := ErrF.v TE_BadCount IE_BadCount
  have BK_BadCount : KBn K _ ["self", "count"] 1 ["count"] oneR oneR := Lm.Fun.kone F_BadCountinit fun _ _ _ _ _ _ _ _ => rfl
  have O_BadCutinit : FnOk l.prog w K mg base CX0 1 f_BadCutinit _ ["self", "number"] (spErrI C_BadCut "number") := ok_bad_cut F_BadCutinit TE_BadCut.T TE_BadCut.no
  have IE_BadCut : ErrI l.prog w K mg base C_BadCut f_BadCutinit _ "number" := ⟨O_BadCutinit, b_BadCutinit⟩
  have V_BadCut := ErrF.v TE_BadCut IE_BadCut
  have BK_BadCut : KBn K _ ["self", "number"] 1 ["number"] oneR oneR := Lm.Fun.kone F_BadCutinit fun _ _ _ _ _ _ _ _ => rfl
  have O_BadSizeinit : FnOk l.prog w K mg base CX0 1 f_BadSizeinit _ ["self", "size"] (spErrI C_BadSize "size") := ok_bad_size F_BadSizeinit TE_BadSize.T TE_BadSize.no
  have IE_BadSize : ErrI l.prog w K mg base C_BadSize f_BadSizeinit _ "size" := ⟨O_BadSizeinit, b_BadSizeinit⟩
  have V_BadSize := ErrF.v TE_BadSize IE_BadSize
  have BK_BadSize : KBn K _ ["self", "size"] 1 ["size"] oneR oneR := Lm.Fun.kone F_BadSizeinit fun _ _ _ _ _ _ _ _ => rfl
  have O_BadEditioninit : FnOk l.prog w K mg base CX0 1 f_BadEditioninit _ ["self", "index"] (spErrI C_BadEdition "index") := ok_bad_edition F_BadEditioninit TE_BadEdition.T TE_BadEdition.no
  have IE_BadEdition : ErrI l.prog w K mg base C_BadEdition f_BadEditioninit _ "index" := ⟨O_BadEditioninit, b_BadEditioninit⟩
  have V_BadEdition := ErrF.v TE_BadEdition IE_BadEdition
  have BK_BadEdition : KBn K _ ["self", "index"] 1 ["index"] oneR oneR := Lm.Fun.kone F_BadEditioninit fun _ _ _ _ _ _ _ _ => rfl
  have O_BadTextinit : FnOk l.prog w K mg base CX0 1 f_BadTextinit _ ["self", "line"] (spErrI C_BadText "line") := ok_bad_text F_BadTextinit TE_BadText.T TE_BadText.no
  have IE_BadText : ErrI l.prog w K mg base C_BadText f_BadTextinit _ "line" := ⟨O_BadTextinit, b_BadTextinit⟩
  have V_BadText := ErrF.v TE_BadText IE_BadText
  have BK_BadText : KBn K _ ["self", "line"] 1 ["line"] oneR oneR := Lm.Fun.kone F_BadTextinit fun _ _ _ _ _ _ _ _ => rfl
  have O_BadDeedinit : FnOk l.prog w K mg base CX0 1 f_BadDeedinit _ ["self", "index"] (spErrI C_BadDeed "index") := ok_bad_deed F_BadDeedinit TE_BadDeed.T TE_BadDeed.no
  have IE_BadDeed : ErrI l.prog w K mg base C_BadDeed f_BadDeedinit _ "index" := ⟨O_BadDeedinit, b_BadDeedinit⟩
  have V_BadDeed := ErrF.v TE_BadDeed IE_BadDeed
  have BK_BadDeed : KBn K _ ["self", "index"] 1 ["index"] oneR oneR := Lm.Fun.kone F_BadDeedinit fun _ _ _ _ _ _ _ _ => rfl
  have O_BadFaultinit : FnOk l.prog w K mg base CX0 1 f_BadFaultinit _ ["self", "fault"] (spErrI C_BadFault "fault") := ok_bad_fault F_BadFaultinit TE_BadFault.T TE_BadFault.no
  have IE_BadFault : ErrI l.prog w K mg base C_BadFault f_BadFaultinit _ "fault" := ⟨O_BadFaultinit, b_BadFaultinit⟩
  have V_BadFault := ErrF.v TE_BadFault IE_BadFault
  have BK_BadFault : KBn K _ ["self", "fault"] 1 ["fault"] oneR oneR := Lm.Fun.kone F_BadFaultinit fun _ _ _ _ _ _ _ _ => rfl
  have O_BadKindsinit : FnOk l.prog w K mg base CX0 1 f_BadKindsinit _ ["self", "kinds"] (spErrI C_BadKinds "kinds") := ok_bad_kinds F_BadKindsinit TE_BadKinds.T TE_BadKinds.no
  have IE_BadKinds : ErrI l.prog w K mg base C_BadKinds f_BadKindsinit _ "kinds" := ⟨O_BadKindsinit, b_BadKindsinit⟩
  have V_BadKinds := ErrF.v TE_BadKinds IE_BadKinds
  have BK_BadKinds : KBn K _ ["self", "kinds"] 1 ["kinds"] oneR oneR := Lm.Fun.kone F_BadKindsinit fun _ _ _ _ _ _ _ _ => rfl
  have O_TooManyinit : FnOk l.prog w K mg base CX0 1 f_TooManyinit _ ["self", "most"] (spErrI C_TooMany "most") := ok_too_many F_TooManyinit TE_TooMany.T TE_TooMany.no
  have IE_TooMany : ErrI l.prog w K mg base C_TooMany f_TooManyinit _ "most" := ⟨O_TooManyinit, b_TooManyinit⟩
  have V_TooMany := ErrF.v TE_TooMany IE_TooMany
  have BK_TooMany : KBn K _ ["self", "most"] 1 ["most"] oneR oneR := Lm.Fun.kone F_TooManyinit fun _ _ _ _ _ _ _ _ => rfl
  have O_BadMarkinit : FnOk l.prog w K mg base CX0 1 f_BadMarkinit _ ["self", "mark"] (spErrI C_BadMark "mark") := ok_bad_mark F_BadMarkinit TE_BadMark.T TE_BadMark.no
  have IE_BadMark : ErrI l.prog w K mg base C_BadMark f_BadMarkinit _ "mark" := ⟨O_BadMarkinit, b_BadMarkinit⟩
  have V_BadMark := ErrF.v TE_BadMark IE_BadMark
  have BK_BadMark : KBn K _ ["self", "mark"] 1 ["mark"] oneR oneR := Lm.Fun.kone F_BadMarkinit fun _ _ _ _ _ _ _ _ => rfl
  have O_BadJumpinit : FnOk l.prog w K mg base CX0 1 f_BadJumpinit _ ["self", "thing"] (spErrI C_BadJump "thing") := ok_bad_jump F_BadJumpinit TE_BadJump.T TE_BadJump.no
  have IE_BadJump : ErrI l.prog w K mg base C_BadJump f_BadJumpinit _ "thing" := ⟨O_BadJumpinit, b_BadJumpinit⟩
  have V_BadJump := ErrF.v TE_BadJump IE_BadJump
  have BK_BadJump : KBn K _ ["self", "thing"] 1 ["thing"] oneR oneR := Lm.Fun.kone F_BadJumpinit fun _ _ _ _ _ _ _ _ => rfl
  have O_BadRuleinit : FnOk l.prog w K mg base CX0 1 f_BadRuleinit _ ["self", "index", "reason"] (spErrI2 C_BadRule "index" "reason") := ok_bad_rule F_BadRuleinit TE_BadRule.T TE_BadRule.n1 TE_BadRule.n2
  have IE_BadRule : ErrI2 l.prog w K mg base C_BadRule f_BadRuleinit _ "index" "reason" := ⟨O_BadRuleinit, b_BadRuleinit⟩
  have V_BadRule := ErrF2.v TE_BadRule IE_BadRule
  have BK_BadRule : KBn K _ ["self", "index", "reason"] 1 ["reason", "index"] swapR swapR := Lm.Fun.swap F_BadRuleinit fun _ _ _ _ _ _ _ _ _ => rfl
  have O_made : FnOk l.prog w K mg base CX0 3 f_made _ ["_law_k", "_law_x", "_law_named"] (spMade [C_BadWord, C_BadPassage, C_BadCount, C_BadCut, C_BadSize, C_BadEdition, C_BadText, C_BadDeed, C_BadFault, C_BadKinds, C_TooMany, C_BadMark, C_BadJump, C_BadRule, C_OtherWork, C_BadSetting, C_Away]) := ok_made (C_LeafError := C_LeafError) F_made T V_BadWord BK_BadWord V_BadPassage BK_BadPassage V_BadCount BK_BadCount V_BadCut BK_BadCut V_BadSize BK_BadSize V_BadEdition BK_BadEdition V_BadText BK_BadText V_BadDeed BK_BadDeed V_BadFault BK_BadFault V_BadKinds BK_BadKinds V_TooMany BK_TooMany V_BadMark BK_BadMark V_BadJump BK_BadJump
  have D_made : DefOk l.prog w K mg base 3 "_law_made" f_made _ ["_law_k", "_law_x", "_law_named"] (spMade [C_BadWord, C_BadPassage, C_BadCount, C_BadCut, C_BadSize, C_BadEdition, C_BadText, C_BadDeed, C_BadFault, C_BadKinds, C_TooMany, C_BadMark, C_BadJump, C_BadRule, C_OtherWork, C_BadSetting, C_Away]) := ⟨O_made, k_made, b_made, PySem.W.mg_of X G a_made⟩
  have O_field : FnOk l.prog w K mg base CX0 1 f_field _ ["_law_e", "_law_k"] (spField K) := ok_field_er F_field T
  have D_field : DefOk l.prog w K mg base 1 "_law_field" f_field _ ["_law_e", "_law_k"] (spField K) := ⟨O_field, k_field, b_field, PySem.W.mg_of X G a_field⟩
  have O_classes : FnOk l.prog w K mg base CX0 1 f_classes _ ["_law_e"] (spClasses K [C_BadWord, C_BadPassage, C_BadCount, C_BadCut, C_BadSize, C_BadEdition, C_BadText, C_BadDeed, C_BadFault, C_BadKinds, C_TooMany, C_BadMark, C_BadJump, C_BadRule, C_OtherWork, C_BadSetting, C_Away] C_LeafError) := ok_classes F_classes T TV V_BadWord V_BadPassage V_BadCount V_BadCut V_BadSize V_BadEdition V_BadText V_BadDeed V_BadFault V_BadKinds V_TooMany V_BadMark V_BadJump V_BadRule T_OtherWork T_BadSetting T_Away T_LeafError
  have D_classes : DefOk l.prog w K mg base 1 "_law_classes" f_classes _ ["_law_e"] (spClasses K [C_BadWord, C_BadPassage, C_BadCount, C_BadCut, C_BadSize, C_BadEdition, C_BadText, C_BadDeed, C_BadFault, C_BadKinds, C_TooMany, C_BadMark, C_BadJump, C_BadRule, C_OtherWork, C_BadSetting, C_Away] C_LeafError) := ⟨O_classes, k_classes, b_classes, PySem.W.mg_of X G a_classes⟩
  have O_changed : FnOk l.prog w K mg base CX0 1 f_changed _ ["_law_x"] spChanged := ok_changed F_changed T TV
  have D_changed : DefOk l.prog w K mg base 1 "_law_changed" f_changed _ ["_law_x"] spChanged := ⟨O_changed, k_changed, b_changed, PySem.W.mg_of X G a_changed⟩
  exact ok_law F_law T TB D_fresh D_take D_any D_same D_made D_field D_classes D_changed V_BadRule BK_BadRule T_OtherWork T_BadSetting T_Away T_LeafError
theorem walk {l : PySem.W.OpenLaw} {q : Program} {loose : List Str} {XP : (Str → Option Value) → Heap → Prop} {YP : World → Heap → Prop} {d : DefRec} {K : Params → PySem.W.Frag} (hn : l.most = some 63) (hdf : d.params.defaults = [])
    (hY : ∀ (w : World) (h : Heap), YP w h → (K w.params).In h)
    (F : ∀ (w : World) (mg : Str → Option Value) (fa : Addr) (h : Heap), (K w.params).In h → h.Ns mainGlobals mg → mg d.name = some (.ref fa) →
      ∃ fd : FuncData, (∀ (s : Shared) (u : Value), BindsTo s fd ⟨[u], []⟩ [("_law_script", u)]) ∧ ∀ base : Heap, (K w.params).In base → base.Ns mainGlobals mg → FnOk l.prog w (K w.params) mg base CX0 14 fa fd ["_law_script"] (spLaw (K w.params))) :
    PySem.W.WalkO q loose XP YP l.row.toRowW d [] (fun f vs => PySem.call f vs) :=
  L2.walk_of (n := 63) (k := 14) (x := "_law_script") (CX := fun _ => CX0) (sp := fun w => spLaw (K w.params)) hn (by decide) hdf ⟨rfl, by decide, by decide⟩ hY F (fun _ _ a ns hl _ hS => ⟨a, ns, rfl, hS, hl, fun _ => rfl⟩) fun _ _ _ _ _ z => z
end Lm

open PySem PySem.W PyProof.Rows
set_option maxRecDepth 100000 in
set_option maxHeartbeats 0 in
theorem PySem.Challenge.cw_leafmarks_k01_errors_made_holds : PySem.Challenge.rw_leafmarks_k01_errors_made.Holds := by
  w_on; o_law; k_head; (case hw => w_witness2)
  k_fill
  refine Lm.walk (l := PySem.Challenge.rw_leafmarks_k01_errors_made) rfl rfl (fun w h Y => PySem.W.kIn_of Y) ?F
  case F =>
    intro w mg fa h KX G hmg
    refine' Lm.all_mk KX G hmg ?a_fresh ?l_fresh ?c_fresh ?k_fresh ?a_fill ?l_fill ?c_fill ?k_fill ?a_take ?l_take ?c_take ?k_take ?a_one ?l_one ?c_one ?k_one ?a_same ?l_same ?c_same ?k_same ?a_any ?l_any ?c_any ?k_any ?aBadWord ?oBadWord ?rBadWord ?sBadWord ?bBadWord ?tBadWord ?kBadWord ?gaBadWord ?ggBadWord ?hdBadWord ?iBadWord ?tyBadWord ?noBadWord ?icBadWord ?seBadWord ?caBadWord ?obBadWord ?l_BadWordinit ?c_BadWordinit ?k_BadWordinit ?aBadPassage ?oBadPassage ?rBadPassage ?sBadPassage ?bBadPassage ?tBadPassage ?kBadPassage ?gaBadPassage ?ggBadPassage ?hdBadPassage ?iBadPassage ?tyBadPassage ?noBadPassage ?icBadPassage ?seBadPassage ?caBadPassage ?obBadPassage ?l_BadPassageinit ?c_BadPassageinit ?k_BadPassageinit ?aBadCount ?oBadCount ?rBadCount ?sBadCount ?bBadCount ?tBadCount ?kBadCount ?gaBadCount ?ggBadCount ?hdBadCount ?iBadCount ?tyBadCount ?noBadCount ?icBadCount ?seBadCount ?caBadCount ?obBadCount ?l_BadCountinit ?c_BadCountinit ?k_BadCountinit ?aBadCut ?oBadCut ?rBadCut ?sBadCut ?bBadCut ?tBadCut ?kBadCut ?gaBadCut ?ggBadCut ?hdBadCut ?iBadCut ?tyBadCut ?noBadCut ?icBadCut ?seBadCut ?caBadCut ?obBadCut ?l_BadCutinit ?c_BadCutinit ?k_BadCutinit ?aBadSize ?oBadSize ?rBadSize ?sBadSize ?bBadSize ?tBadSize ?kBadSize ?gaBadSize ?ggBadSize ?hdBadSize ?iBadSize ?tyBadSize ?noBadSize ?icBadSize ?seBadSize ?caBadSize ?obBadSize ?l_BadSizeinit ?c_BadSizeinit ?k_BadSizeinit ?aBadEdition ?oBadEdition ?rBadEdition ?sBadEdition ?bBadEdition ?tBadEdition ?kBadEdition ?gaBadEdition ?ggBadEdition ?hdBadEdition ?iBadEdition ?tyBadEdition ?noBadEdition ?icBadEdition ?seBadEdition ?caBadEdition ?obBadEdition ?l_BadEditioninit ?c_BadEditioninit ?k_BadEditioninit ?aBadText ?oBadText ?rBadText ?sBadText ?bBadText ?tBadText ?kBadText ?gaBadText ?ggBadText ?hdBadText ?iBadText ?tyBadText ?noBadText ?icBadText ?seBadText ?caBadText ?obBadText ?l_BadTextinit ?c_BadTextinit ?k_BadTextinit ?aBadDeed ?oBadDeed ?rBadDeed ?sBadDeed ?bBadDeed ?tBadDeed ?kBadDeed ?gaBadDeed ?ggBadDeed ?hdBadDeed ?iBadDeed ?tyBadDeed ?noBadDeed ?icBadDeed ?seBadDeed ?caBadDeed ?obBadDeed ?l_BadDeedinit ?c_BadDeedinit ?k_BadDeedinit ?aBadFault ?oBadFault ?rBadFault ?sBadFault ?bBadFault ?tBadFault ?kBadFault ?gaBadFault ?ggBadFault ?hdBadFault ?iBadFault ?tyBadFault ?noBadFault ?icBadFault ?seBadFault ?caBadFault ?obBadFault ?l_BadFaultinit ?c_BadFaultinit ?k_BadFaultinit ?aBadKinds ?oBadKinds ?rBadKinds ?sBadKinds ?bBadKinds ?tBadKinds ?kBadKinds ?gaBadKinds ?ggBadKinds ?hdBadKinds ?iBadKinds ?tyBadKinds ?noBadKinds ?icBadKinds ?seBadKinds ?caBadKinds ?obBadKinds ?l_BadKindsinit ?c_BadKindsinit ?k_BadKindsinit ?aTooMany ?oTooMany ?rTooMany ?sTooMany ?bTooMany ?tTooMany ?kTooMany ?gaTooMany ?ggTooMany ?hdTooMany ?iTooMany ?tyTooMany ?noTooMany ?icTooMany ?seTooMany ?caTooMany ?obTooMany ?l_TooManyinit ?c_TooManyinit ?k_TooManyinit ?aBadMark ?oBadMark ?rBadMark ?sBadMark ?bBadMark ?tBadMark ?kBadMark ?gaBadMark ?ggBadMark ?hdBadMark ?iBadMark ?tyBadMark ?noBadMark ?icBadMark ?seBadMark ?caBadMark ?obBadMark ?l_BadMarkinit ?c_BadMarkinit ?k_BadMarkinit ?aBadJump ?oBadJump ?rBadJump ?sBadJump ?bBadJump ?tBadJump ?kBadJump ?gaBadJump ?ggBadJump ?hdBadJump ?iBadJump ?tyBadJump ?noBadJump ?icBadJump ?seBadJump ?caBadJump ?obBadJump ?l_BadJumpinit ?c_BadJumpinit ?k_BadJumpinit ?aBadRule ?oBadRule ?rBadRule ?sBadRule ?bBadRule ?tBadRule ?kBadRule ?gaBadRule ?ggBadRule ?hdBadRule ?iBadRule ?tyBadRule ?icBadRule ?seBadRule ?caBadRule ?obBadRule ?noBadRule ?npBadRule ?l_BadRuleinit ?c_BadRuleinit ?k_BadRuleinit ?a_made ?l_made ?c_made ?k_made ?a_field ?l_field ?c_field ?k_field ?a_classes ?l_classes ?c_classes ?k_classes ?a_changed ?l_changed ?c_changed ?k_changed ?a_law ?l_law ?c_law ?k_law ?z_len ?z_int ?z_range ?z_enumerate ?z_isinstance ?z_list ?z_tuple ?z_str ?z_bool ?z_all ?z_max ?z_zip ?aOtherWork ?oOtherWork ?xOtherWork ?kOtherWork ?bOtherWork ?tOtherWork ?icOtherWork ?seOtherWork ?gaOtherWork ?ggOtherWork ?hdOtherWork ?caOtherWork ?obOtherWork ?aBadSetting ?oBadSetting ?xBadSetting ?kBadSetting ?bBadSetting ?tBadSetting ?icBadSetting ?seBadSetting ?gaBadSetting ?ggBadSetting ?hdBadSetting ?caBadSetting ?obBadSetting ?aAway ?oAway ?xAway ?kAway ?bAway ?tAway ?icAway ?seAway ?gaAway ?ggAway ?hdAway ?caAway ?obAway ?aLeafError ?oLeafError ?xLeafError ?kLeafError ?bLeafError ?tLeafError ?icLeafError ?seLeafError ?gaLeafError ?ggLeafError ?hdLeafError ?caLeafError ?obLeafError ?hge ?htk ?zz_VE ?zz_dict
    (case a_fresh => k_is)
    (case l_fresh => k_is)
    (case c_fresh => k_is)
    (case k_fresh => k_is)
    (case a_fill => k_is)
    (case l_fill => k_is)
    (case c_fill => k_is)
    (case k_fill => k_is)
    (case a_take => k_is)
    (case l_take => k_is)
    (case c_take => k_is)
    (case k_take => k_is)
    (case a_one => k_is)
    (case l_one => k_is)
    (case c_one => k_is)
    (case k_one => k_is)
    (case a_same => k_is)
    (case l_same => k_is)
    (case c_same => k_is)
    (case k_same => k_is)
    (case a_any => k_is)
    (case l_any => k_is)
    (case c_any => k_is)
    (case k_any => k_is)
    (case aBadWord => k_is)
    (case oBadWord => k_is)
    (case rBadWord => rfl)
    (case sBadWord => k_is)
    (case bBadWord => k_is)
    (case tBadWord => k_is)
    (case kBadWord => k_is)
    (case gaBadWord => k_is)
    (case ggBadWord => k_is)
    (case hdBadWord => k_is)
    (case iBadWord => k_is)
    (case tyBadWord => k_is)
    (case noBadWord => k_is)
    (case icBadWord => k_is)
    (case seBadWord => k_is)
    (case caBadWord => k_is)
    (case obBadWord => k_is)
    (case l_BadWordinit => k_is)
    (case c_BadWordinit => k_is)
    (case k_BadWordinit => k_is)
    (case aBadPassage => k_is)
    (case oBadPassage => k_is)
    (case rBadPassage => rfl)
    (case sBadPassage => k_is)
    (case bBadPassage => k_is)
    (case tBadPassage => k_is)
    (case kBadPassage => k_is)
    (case gaBadPassage => k_is)
    (case ggBadPassage => k_is)
    (case hdBadPassage => k_is)
    (case iBadPassage => k_is)
    (case tyBadPassage => k_is)
    (case noBadPassage => k_is)
    (case icBadPassage => k_is)
    (case seBadPassage => k_is)
    (case caBadPassage => k_is)
    (case obBadPassage => k_is)
    (case l_BadPassageinit => k_is)
    (case c_BadPassageinit => k_is)
    (case k_BadPassageinit => k_is)
    (case aBadCount => k_is)
    (case oBadCount => k_is)
    (case rBadCount => rfl)
    (case sBadCount => k_is)
    (case bBadCount => k_is)
    (case tBadCount => k_is)
    (case kBadCount => k_is)
    (case gaBadCount => k_is)
    (case ggBadCount => k_is)
    (case hdBadCount => k_is)
    (case iBadCount => k_is)
    (case tyBadCount => k_is)
    (case noBadCount => k_is)
    (case icBadCount => k_is)
    (case seBadCount => k_is)
    (case caBadCount => k_is)
    (case obBadCount => k_is)
    (case l_BadCountinit => k_is)
    (case c_BadCountinit => k_is)
    (case k_BadCountinit => k_is)
    (case aBadCut => k_is)
    (case oBadCut => k_is)
    (case rBadCut => rfl)
    (case sBadCut => k_is)
    (case bBadCut => k_is)
    (case tBadCut => k_is)
    (case kBadCut => k_is)
    (case gaBadCut => k_is)
    (case ggBadCut => k_is)
    (case hdBadCut => k_is)
    (case iBadCut => k_is)
    (case tyBadCut => k_is)
    (case noBadCut => k_is)
    (case icBadCut => k_is)
    (case seBadCut => k_is)
    (case caBadCut => k_is)
    (case obBadCut => k_is)
    (case l_BadCutinit => k_is)
    (case c_BadCutinit => k_is)
    (case k_BadCutinit => k_is)
    (case aBadSize => k_is)
    (case oBadSize => k_is)
    (case rBadSize => rfl)
    (case sBadSize => k_is)
    (case bBadSize => k_is)
    (case tBadSize => k_is)
    (case kBadSize => k_is)
    (case gaBadSize => k_is)
    (case ggBadSize => k_is)
    (case hdBadSize => k_is)
    (case iBadSize => k_is)
    (case tyBadSize => k_is)
    (case noBadSize => k_is)
    (case icBadSize => k_is)
    (case seBadSize => k_is)
    (case caBadSize => k_is)
    (case obBadSize => k_is)
    (case l_BadSizeinit => k_is)
    (case c_BadSizeinit => k_is)
    (case k_BadSizeinit => k_is)
    (case aBadEdition => k_is)
    (case oBadEdition => k_is)
    (case rBadEdition => rfl)
    (case sBadEdition => k_is)
    (case bBadEdition => k_is)
    (case tBadEdition => k_is)
    (case kBadEdition => k_is)
    (case gaBadEdition => k_is)
    (case ggBadEdition => k_is)
    (case hdBadEdition => k_is)
    (case iBadEdition => k_is)
    (case tyBadEdition => k_is)
    (case noBadEdition => k_is)
    (case icBadEdition => k_is)
    (case seBadEdition => k_is)
    (case caBadEdition => k_is)
    (case obBadEdition => k_is)
    (case l_BadEditioninit => k_is)
    (case c_BadEditioninit => k_is)
    (case k_BadEditioninit => k_is)
    (case aBadText => k_is)
    (case oBadText => k_is)
    (case rBadText => rfl)
    (case sBadText => k_is)
    (case bBadText => k_is)
    (case tBadText => k_is)
    (case kBadText => k_is)
    (case gaBadText => k_is)
    (case ggBadText => k_is)
    (case hdBadText => k_is)
    (case iBadText => k_is)
    (case tyBadText => k_is)
    (case noBadText => k_is)
    (case icBadText => k_is)
    (case seBadText => k_is)
    (case caBadText => k_is)
    (case obBadText => k_is)
    (case l_BadTextinit => k_is)
    (case c_BadTextinit => k_is)
    (case k_BadTextinit => k_is)
    (case aBadDeed => k_is)
    (case oBadDeed => k_is)
    (case rBadDeed => rfl)
    (case sBadDeed => k_is)
    (case bBadDeed => k_is)
    (case tBadDeed => k_is)
    (case kBadDeed => k_is)
    (case gaBadDeed => k_is)
    (case ggBadDeed => k_is)
    (case hdBadDeed => k_is)
    (case iBadDeed => k_is)
    (case tyBadDeed => k_is)
    (case noBadDeed => k_is)
    (case icBadDeed => k_is)
    (case seBadDeed => k_is)
    (case caBadDeed => k_is)
    (case obBadDeed => k_is)
    (case l_BadDeedinit => k_is)
    (case c_BadDeedinit => k_is)
    (case k_BadDeedinit => k_is)
    (case aBadFault => k_is)
    (case oBadFault => k_is)
    (case rBadFault => rfl)
    (case sBadFault => k_is)
    (case bBadFault => k_is)
    (case tBadFault => k_is)
    (case kBadFault => k_is)
    (case gaBadFault => k_is)
    (case ggBadFault => k_is)
    (case hdBadFault => k_is)
    (case iBadFault => k_is)
    (case tyBadFault => k_is)
    (case noBadFault => k_is)
    (case icBadFault => k_is)
    (case seBadFault => k_is)
    (case caBadFault => k_is)
    (case obBadFault => k_is)
    (case l_BadFaultinit => k_is)
    (case c_BadFaultinit => k_is)
    (case k_BadFaultinit => k_is)
    (case aBadKinds => k_is)
    (case oBadKinds => k_is)
    (case rBadKinds => rfl)
    (case sBadKinds => k_is)
    (case bBadKinds => k_is)
    (case tBadKinds => k_is)
    (case kBadKinds => k_is)
    (case gaBadKinds => k_is)
    (case ggBadKinds => k_is)
    (case hdBadKinds => k_is)
    (case iBadKinds => k_is)
    (case tyBadKinds => k_is)
    (case noBadKinds => k_is)
    (case icBadKinds => k_is)
    (case seBadKinds => k_is)
    (case caBadKinds => k_is)
    (case obBadKinds => k_is)
    (case l_BadKindsinit => k_is)
    (case c_BadKindsinit => k_is)
    (case k_BadKindsinit => k_is)
    (case aTooMany => k_is)
    (case oTooMany => k_is)
    (case rTooMany => rfl)
    (case sTooMany => k_is)
    (case bTooMany => k_is)
    (case tTooMany => k_is)
    (case kTooMany => k_is)
    (case gaTooMany => k_is)
    (case ggTooMany => k_is)
    (case hdTooMany => k_is)
    (case iTooMany => k_is)
    (case tyTooMany => k_is)
    (case noTooMany => k_is)
    (case icTooMany => k_is)
    (case seTooMany => k_is)
    (case caTooMany => k_is)
    (case obTooMany => k_is)
    (case l_TooManyinit => k_is)
    (case c_TooManyinit => k_is)
    (case k_TooManyinit => k_is)
    (case aBadMark => k_is)
    (case oBadMark => k_is)
    (case rBadMark => rfl)
    (case sBadMark => k_is)
    (case bBadMark => k_is)
    (case tBadMark => k_is)
    (case kBadMark => k_is)
    (case gaBadMark => k_is)
    (case ggBadMark => k_is)
    (case hdBadMark => k_is)
    (case iBadMark => k_is)
    (case tyBadMark => k_is)
    (case noBadMark => k_is)
    (case icBadMark => k_is)
    (case seBadMark => k_is)
    (case caBadMark => k_is)
    (case obBadMark => k_is)
    (case l_BadMarkinit => k_is)
    (case c_BadMarkinit => k_is)
    (case k_BadMarkinit => k_is)
    (case aBadJump => k_is)
    (case oBadJump => k_is)
    (case rBadJump => rfl)
    (case sBadJump => k_is)
    (case bBadJump => k_is)
    (case tBadJump => k_is)
    (case kBadJump => k_is)
    (case gaBadJump => k_is)
    (case ggBadJump => k_is)
    (case hdBadJump => k_is)
    (case iBadJump => k_is)
    (case tyBadJump => k_is)
    (case noBadJump => k_is)
    (case icBadJump => k_is)
    (case seBadJump => k_is)
    (case caBadJump => k_is)
    (case obBadJump => k_is)
    (case l_BadJumpinit => k_is)
    (case c_BadJumpinit => k_is)
    (case k_BadJumpinit => k_is)
    (case aBadRule => k_is)
    (case oBadRule => k_is)
    (case rBadRule => rfl)
    (case sBadRule => k_is)
    (case bBadRule => k_is)
    (case tBadRule => k_is)
    (case kBadRule => k_is)
    (case gaBadRule => k_is)
    (case ggBadRule => k_is)
    (case hdBadRule => k_is)
    (case iBadRule => k_is)
    (case tyBadRule => k_is)
    (case icBadRule => k_is)
    (case seBadRule => k_is)
    (case caBadRule => k_is)
    (case obBadRule => k_is)
    (case noBadRule => k_is)
    (case npBadRule => k_is)
    (case l_BadRuleinit => k_is)
    (case c_BadRuleinit => k_is)
    (case k_BadRuleinit => k_is)
    (case a_made => k_is)
    (case l_made => k_is)
    (case c_made => k_is)
    (case k_made => k_is)
    (case a_field => k_is)
    (case l_field => k_is)
    (case c_field => k_is)
    (case k_field => k_is)
    (case a_classes => k_is)
    (case l_classes => k_is)
    (case c_classes => k_is)
    (case k_classes => k_is)
    (case a_changed => k_is)
    (case l_changed => k_is)
    (case c_changed => k_is)
    (case k_changed => k_is)
    (case a_law => k_is)
    (case l_law => k_is)
    (case c_law => k_is)
    (case k_law => k_is)
    (case z_len => k_is)
    (case z_int => k_is)
    (case z_range => k_is)
    (case z_enumerate => k_is)
    (case z_isinstance => k_is)
    (case z_list => k_is)
    (case z_tuple => k_is)
    (case z_str => k_is)
    (case z_bool => k_is)
    (case z_all => k_is)
    (case z_max => k_is)
    (case z_zip => k_is)
    (case aOtherWork => k_is)
    (case oOtherWork => k_is)
    (case xOtherWork => k_exc)
    (case kOtherWork => k_is)
    (case bOtherWork => k_is)
    (case tOtherWork => k_is)
    (case icOtherWork => k_is)
    (case seOtherWork => k_is)
    (case gaOtherWork => k_is)
    (case ggOtherWork => k_is)
    (case hdOtherWork => k_is)
    (case caOtherWork => k_is)
    (case obOtherWork => k_is)
    (case aBadSetting => k_is)
    (case oBadSetting => k_is)
    (case xBadSetting => k_exc)
    (case kBadSetting => k_is)
    (case bBadSetting => k_is)
    (case tBadSetting => k_is)
    (case icBadSetting => k_is)
    (case seBadSetting => k_is)
    (case gaBadSetting => k_is)
    (case ggBadSetting => k_is)
    (case hdBadSetting => k_is)
    (case caBadSetting => k_is)
    (case obBadSetting => k_is)
    (case aAway => k_is)
    (case oAway => k_is)
    (case xAway => k_exc)
    (case kAway => k_is)
    (case bAway => k_is)
    (case tAway => k_is)
    (case icAway => k_is)
    (case seAway => k_is)
    (case gaAway => k_is)
    (case ggAway => k_is)
    (case hdAway => k_is)
    (case caAway => k_is)
    (case obAway => k_is)
    (case aLeafError => k_is)
    (case oLeafError => k_is)
    (case xLeafError => k_exc)
    (case kLeafError => k_is)
    (case bLeafError => k_is)
    (case tLeafError => k_is)
    (case icLeafError => k_is)
    (case seLeafError => k_is)
    (case gaLeafError => k_is)
    (case ggLeafError => k_is)
    (case hdLeafError => k_is)
    (case caLeafError => k_is)
    (case obLeafError => k_is)
    (case hge => k_is)
    (case htk => k_is)
    (case zz_VE => k_is)
    (case zz_dict => k_is)
