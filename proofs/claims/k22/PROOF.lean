import PyProof.Rows.All
import Wide.All
import OpenK.AllK
import Wide.FinOn
import PyProof.EqKinds
import HandS.ForMost
import HandS.IsInst
import HandS.OwnEq
import PyProof.InstNe
import PyProof.Draws
import KE.GoesEnum
import KE.GoesMore
import KE.KOpsOwn
import HandS.Walk
import HandS.Conv
import HandS.Evl
import HandS.Zip
import HandS.Property
import HandS.MakeKwOnly
import HandS.Style
import HandS.WordsExc
import HandS.ExcOwn
import HandS.TryOnly
import HandS.TupMul
import HandS.ExcInit
import HandS.ExcField
import KE.KCallOwn
import HandS.Lambda
import HandS.TryMany
import HandS.Nested
import HandS.NestedK
import HandS.ClsMeth
import KE.KListMore
import PyProof.CollectIter
import KE.GoesEnumKw
import PyProof.StrOps2
import HandS.Text
import HandS.StrMore
import HandS.RaiseMore
import HandS.FStr
import HandS.Star
import HandS.Dict
import HandS.ExcValue
import HandS.MakeKw
import HandS.DictComp
import KE.KEqNest
import KE.KExcIs
import KE.KDictLaw
import HandS.EndTab
import HandS.HeadEnd
import PyProof.ReprRoads
import PyProof.ReprLen
import PyProof.ReprNest
import PyProof.ReprDict
import HandS.TupAny
import KE.KNestM
import PySem.Challenge.RW_leafmarks_k22_rules_refused
set_option Elab.async false
set_option linter.all false
set_option maxRecDepth 100000
set_option maxHeartbeats 16000000
namespace Lm
open PySem L2
section
variable {X : Cx} {CX : CXT} {k : Nat} {f C : Addr} {fd : FuncData} {ps : List Str} {sp : Sp} {E : XK} {pins : List (Addr × Obj)} {σ : St} {H : Hp} {s : Shared}
/-- the callee runs under another around of the same frames -/
theorem run_in {A : Around} {Q : VK} {us : List Value} {vs : List V} (F : FnOk X.prog X.w X.K X.mg X.base CX k f fd ps sp) (hr : Room k A) (e0 : Env0 X.prog X.w X.K X.mg X.base A X.stack s H) (hb : Binds X.K fd ps [])
    (hx : Passes CX X E) (I : Inv X pins σ H s) (r : Vals vs us) (h : sp vs H Q E) : wpAny (model X.prog X.w) A (call (.ref f) us) (EP X pins σ Q) X.xe s := by
  have hl : us.length = ps.length := by rw [← r.length]; exact F.len _ _ _ _ h
  have hb' : BindsTo s fd ⟨us, []⟩ (ps.zip us) := by
    have := hb s us I.kIn (by simpa using hl)
    simpa using this
  refine wpAny_call (codeAny_mono (F.run A X.stack s H ⟨us, []⟩ us vs Q E hr e0 hb' r h) fun r s' hq => ?_)
  cases r with
  | error e => exact hx pins σ H s e s' I hq
  | ok fl =>
    cases fl with
    | ret u => exact I.after hq
    | next => exact False.elim hq
    | brk => exact False.elim hq
    | cont => exact False.elim hq
/-- len(x), x an instance with its own __len__ -/
def rLenOwn (C : Addr) (sp : Sp) (E : XK) : List V → Hp → VK → Prop := fun xs H Q => ∃ a dx fs, xs = [.ref a] ∧ H a = some (.ins C dx fs) ∧
  sp [.ref a] H (fun z H' => ∃ n : Nat, z = .int n ∧ n < 2 ^ 62 ∧ Q (.int n) H') E
theorem call_lenOwn (F : FnOk X.prog X.w X.K X.mg X.base CX k f fd ps sp) (hs : PySem.W.findIn X.K (.ref C) "__len__" = some (some (.ref f))) (hf : PySem.W.isFn X.K (.ref f) = true) (hb : Binds X.K fd ps []) (hr : Room (k + 1) X.A) (hx : Passes CX X E) :
    CallR X (.builtin "len") (rLenOwn C sp E) := by
  intro pins s σ H xs us Q I r h
  obtain ⟨a, dx, fs, rfl, ha, q⟩ := h
  obtain ⟨u, rfl, ru⟩ := r.one
  cases (show u = Value.ref a from ru)
  obtain ⟨mA, J, _⟩ := ins_get I.hok ha
  obtain ⟨od, J, _⟩ := J.look
  obtain ⟨m, hF⟩ := I.fr
  refine PySem.W.len_K hF I.ok.mod.kin J hs hf (wpAny_mono (run_in (us := [.ref a]) (vs := [.ref a]) F hr.in1 I.env0.in1 hb hx I (.cons rfl .nil) q) (fun w s' z => ?_) fun _ _ x => x)
  obtain ⟨z', H', I', rz, n, ez, hn, qz⟩ := z
  subst ez
  obtain ⟨t, e⟩ := (show ∃ t, w = Value.int n t from rz)
  subst e
  refine ⟨⟨by omega, by omega⟩, .int n, H', I'.tok _, ⟨_, rfl⟩, qz⟩
/-- x in y, y an instance with its own __contains__ -/
def rInOwn (C : Addr) (sp : Sp) (E : XK) (neg : Bool) : R2 := fun x y H Q => ∃ a dx fs, y = .ref a ∧ H a = some (.ins C dx fs) ∧
  sp [y, x] H (fun z H' => ∃ b : Bool, z = .bl b ∧ Q (.bl (if neg then !b else b)) H') E
theorem op_inOwn (F : FnOk X.prog X.w X.K X.mg X.base CX k f fd ps sp) (hs : PySem.W.findIn X.K (.ref C) "__contains__" = some (some (.ref f))) (hf : PySem.W.isFn X.K (.ref f) = true) (hb : Binds X.K fd ps []) (hr : Room k X.A) (hx : Passes CX X E) :
    OpR X (compareOp .In) (rInOwn C sp E false) := by
  intro pins s σ H x y v u Q I rx ry h
  obtain ⟨a, dx, fs, rfl, ha, q⟩ := h
  cases (show u = Value.ref a from ry)
  obtain ⟨mA, J, _⟩ := ins_get I.hok ha
  obtain ⟨od, J, _⟩ := J.look
  obtain ⟨m, hF⟩ := I.fr
  refine PySem.W.in_K hF I.ok.mod.kin J hs hf (wpAny_mono (run_in (us := [.ref a, v]) (vs := [.ref a, x]) F hr I.env0 hb hx I (.cons rfl (.cons rx .nil)) q) (fun w s' z => ?_) fun _ _ x => x)
  obtain ⟨z', H', I', rz, b, ez, qz⟩ := z
  subst ez
  cases (show w = Value.bool b from rz)
  exact wpAny_truthy_bool ⟨.bl _, H', I', rfl, qz⟩
theorem op_notInOwn (F : FnOk X.prog X.w X.K X.mg X.base CX k f fd ps sp) (hs : PySem.W.findIn X.K (.ref C) "__contains__" = some (some (.ref f))) (hf : PySem.W.isFn X.K (.ref f) = true) (hb : Binds X.K fd ps []) (hr : Room k X.A) (hx : Passes CX X E) :
    OpR X (compareOp .NotIn) (rInOwn C sp E true) := by
  intro pins s σ H x y v u Q I rx ry h
  obtain ⟨a, dx, fs, rfl, ha, q⟩ := h
  cases (show u = Value.ref a from ry)
  obtain ⟨mA, J, _⟩ := ins_get I.hok ha
  obtain ⟨od, J, _⟩ := J.look
  obtain ⟨m, hF⟩ := I.fr
  refine PySem.W.notIn_K hF I.ok.mod.kin J hs hf (wpAny_mono (run_in (us := [.ref a, v]) (vs := [.ref a, x]) F hr I.env0 hb hx I (.cons rfl (.cons rx .nil)) q) (fun w s' z => ?_) fun _ _ x => x)
  obtain ⟨z', H', I', rz, b, ez, qz⟩ := z
  subst ez
  cases (show w = Value.bool b from rz)
  exact wpAny_truthy_bool ⟨.bl _, H', I', rfl, qz⟩
theorem cmpBack {P : Value → Shared → Prop} {z : V} {v : Value} {s' : Shared} (r : RelV z v) (h : P v s') : PySem.W.CmpBack P v s' := by
  cases z with
  | non => cases (show v = Value.none from r); exact h
  | bl b => cases (show v = Value.bool b from r); exact h
  | int i => obtain ⟨t, e⟩ := (show ∃ t, v = Value.int i t from r); cases e; exact h
  | str i => obtain ⟨t, e⟩ := (show ∃ t, v = Value.str i t from r); cases e; exact h
  | byt i => obtain ⟨t, e⟩ := (show ∃ t, v = Value.bytes i t from r); cases e; exact h
  | flt i => obtain ⟨t, e⟩ := (show ∃ t, v = Value.float i t from r); cases e; exact h
  | ref a => cases (show v = Value.ref a from r); exact h
  | ty n => cases (show v = Value.type n from r); exact h
/-- x op y, both instances of the class at C that has its own def for it -/
def rBinOwn (C : Addr) (sp : Sp) (E : XK) : R2 := fun x y H Q => ∃ a dx fs b dy gs, x = .ref a ∧ y = .ref b ∧ H a = some (.ins C dx fs) ∧ H b = some (.ins C dy gs) ∧ sp [x, y] H Q E
theorem op_binOwn {op : Operator} (F : FnOk X.prog X.w X.K X.mg X.base CX k f fd ps sp) (hc : PySem.W.selfFirst X.K C = true) (hs : PySem.W.findIn X.K (.ref C) (PySem.dunder op.info.2) = some (some (.ref f))) (hf : PySem.W.isFn X.K (.ref f) = true) (hb : Binds X.K fd ps []) (hr : Room k X.A) (hx : Passes CX X E) :
    OpR X (binaryOp op) (rBinOwn C sp E) := by
  intro pins s σ H x y v u Q I rx ry h
  obtain ⟨a, dx, fs, b, dy, gs, rfl, rfl, ha, hb', q⟩ := h
  cases (show v = Value.ref a from rx)
  cases (show u = Value.ref b from ry)
  obtain ⟨mA, J, _⟩ := ins_get I.hok ha
  obtain ⟨mB, J', _⟩ := ins_get I.hok hb'
  obtain ⟨od, J, _⟩ := J.look
  obtain ⟨od', J', _⟩ := J'.look
  obtain ⟨m, hF⟩ := I.fr
  refine PySem.W.binop_K hF I.ok.mod.kin J J'.type hc hs hf (wpAny_mono (run_in (us := [.ref a, .ref b]) (vs := [.ref a, .ref b]) F hr I.env0 hb hx I (.cons rfl (.cons rfl .nil)) q) (fun w s' z => ?_) fun _ _ x => x)
  obtain ⟨z', H', I', rz, qz⟩ := z
  exact cmpBack rz ⟨z', H', I', rz, qz⟩
theorem op_cmpOwn {op : CmpOp} (hop : ∀ a b, compareOp op a b = richCompare op a b) (F : FnOk X.prog X.w X.K X.mg X.base CX k f fd ps sp) (hs : PySem.W.findIn X.K (.ref C) (cmpInfo op).2.1 = some (some (.ref f))) (hf : PySem.W.isFn X.K (.ref f) = true) (hb : Binds X.K fd ps []) (hr : Room k X.A) (hx : Passes CX X E) :
    OpR X (compareOp op) (rBinOwn C sp E) := by
  intro pins s σ H x y v u Q I rx ry h
  obtain ⟨a, dx, fs, b, dy, gs, rfl, rfl, ha, hb', q⟩ := h
  cases (show v = Value.ref a from rx)
  cases (show u = Value.ref b from ry)
  obtain ⟨mA, J, _⟩ := ins_get I.hok ha
  obtain ⟨mB, J', _⟩ := ins_get I.hok hb'
  obtain ⟨od, J, _⟩ := J.look
  obtain ⟨od', J', _⟩ := J'.look
  obtain ⟨m, hF⟩ := I.fr
  rw [hop]
  refine PySem.W.cmp_K (op := op) (tb := .ref C) hr.units0 hF I.ok.mod.kin J J'.type (by simp [PySem.W.notFirst]) hs hf (wpAny_mono (run_in (us := [.ref a, .ref b]) (vs := [.ref a, .ref b]) F hr I.env0 hb hx I (.cons rfl (.cons rfl .nil)) q) (fun w s' z => ?_) fun _ _ x => x)
  obtain ⟨z', H', I', rz, qz⟩ := z
  exact cmpBack rz ⟨z', H', I', rz, qz⟩
end
end Lm

namespace Lm
open PySem PySem.W PySem.Calls PyProof.Rows
section
variable {prog : Program} {w : World} {A : Around} {E : Value → Shared → Prop} {s : Shared} {K : Frag} {x C L f : Addr} {h₀ : Heap} {m : Str → Option Value} {ox : Obj} {od : Option Obj} {b tb : Value}
/-- != of an instance whose class has an own == and no own != -/
theorem ne_own {Q : Value → Shared → Prop} (hu : A.units + 1 < cLine) (Fr' : Fr h₀ L s.heap m) (X₀ : K.In h₀) (I : InstAt s.heap x ox C od) (hb : Looks (model prog w) s.heap (typeOf b) tb) (hn : notFirst K C tb = true)
    (hne : findIn K (.ref C) "__ne__" = some (some (.builtin "object.__ne__"))) (hobj : subIn K (.ref C) (.type "object") = some true)
    (hs : findIn K (.ref C) "__eq__" = some (some (.ref f))) (hf : isFn K (.ref f) = true)
    (h : wpAny (model prog w) A.in1 (call (.ref f) [.ref x, b]) (fun v s' => ∃ k, v = .bool k ∧ Q (.bool (!k)) s') E s) : wpAny (model prog w) A (richCompare .NotEq (.ref x) b) Q E s := by
  have X := X₀.keeps Fr'.keep
  have fin : ∀ (Q' : Option Value → Shared → Prop), (∀ k s', Q (.bool (!k)) s' → Q' (some (.bool (!k))) s') →
      wpAny (model prog w) A (call (.builtin "object.__ne__") ([.ref x] ++ [b]) >>= fun v => pure (some v)) Q' E s := by
    intro Q' hQ
    refine wpAny_bind (wpAny_call (codeAny_call_builtin PySem.F.cmp_object.ne.plain PySem.F.cmpEntry_ne ?_))
    refine @check_slot (model prog w) _ _ _ "object.__ne__" "object" "__ne__" (.ref x) [b] [] _ PySem.F.cmpKind_ne PySem.F.cmpSplit_ne (I.type.andThen (looks_subIn X hobj)) (PySem.F.cmpArgs_ne _ _) ?_
    unfold Builtin.«object.__ne__»
    repeat (first
      | with_reducible refine wpAny_cRoomFor hu ?_
      | (refine wpAny_bind (m := callSpecialIfBound? (.ref x) (Str.ofString "__eq__") [b])
          (ifBound_K X I hs hf (wpAny_mono h (fun r s' hr => by
            obtain ⟨k, rfl, hq⟩ := hr
            repeat (first | exact ⟨_, rfl, wpAny_pure (hQ k s' hq)⟩ | exact wpAny_pure (hQ k s' hq) | exact hQ k s' hq | exact wpAny_truthy_bool (hQ k s' hq) | (refine wpAny_bind (m := truthy (.bool _)) (wpAny_truthy_bool ?_)) | wp_step)) fun _ _ e => e)))
      | wp_step)
  have one : wpAny (model prog w) A (tryCompare (.ref x) "__ne__" b) (fun r s' => ∃ v, r = some v ∧ Q v s') E s := by
    simp only [tryCompare]
    refine wpAny_bind ?_
    simp only [callSpecialIfBound?, bindSpecialIfBound?]
    refine wpAny_holding (wpAny_bind (wpAny_bind (wpAny_bind (I.type.here ((looks_findIn X hne).here ?_)))))
    refine wpAny_bind (wpAny_askSetting (wpAny_ite ?_))
    split
    · refine wpAny_bind ?_
      rw [PySem.F.cmp_object.ne.bind]
      refine wpAny_pure (wpAny_pure ?_)
      show wpAny _ _ (call _ _ >>= fun v => pure (some v)) _ _ _
      exact fin _ fun k s' q => wpAny_pure ⟨_, rfl, q⟩
    · refine wpAny_tryCatch (wpAny_bind ?_)
      rw [PySem.F.cmp_object.ne.bind]
      refine wpAny_pure (wpAny_pure ?_)
      show wpAny _ _ (call _ _ >>= fun v => pure (some v)) _ _ _
      exact fin _ fun k s' q => wpAny_pure ⟨_, rfl, q⟩
  unfold richCompare
  simp only [oneThing_ref]
  refine wpAny_holding (wpAny_bind (wpAny_cRoomFor (Nat.lt_of_succ_lt hu) ?_))
  refine wpAny_bind (I.type.here (wpAny_bind (hb.here ?_)))
  split
  · rename_i q
    have e : subIn K tb (.ref C) = some false := by
      rcases Bool.or_eq_true_iff.mp hn with e | e
      · rw [beq_iff_eq.mp e] at q; simp at q
      · exact beq_iff_eq.mp e
    refine wpAny_bind ((looks_subIn X e).here ?_)
    simp only [Bool.false_eq_true, if_false]
    refine wpAny_bind (wpAny_mono one (fun r s' z => ?_) fun _ _ e => e)
    obtain ⟨v, rfl, hq⟩ := z
    exact wpAny_pure hq
  · refine wpAny_bind (wpAny_pure ?_)
    simp only [Bool.false_eq_true, if_false]
    refine wpAny_bind (wpAny_mono one (fun r s' z => ?_) fun _ _ e => e)
    obtain ⟨v, rfl, hq⟩ := z
    exact wpAny_pure hq
end
end Lm

namespace Lm
open PySem PySem.W PySem.Calls PyProof.Rows Builtin
theorem meets_enum1 {v : Value} {o : Obj} {H : Heap → Prop} (B : Begins v o H) :
    Meets (Builtin.«enumerate.__new__» ⟨[.type "enumerate", v], []⟩) (fun _ R s => H s.heap ∧
      R (.ok (.ret (.ref (s.heap.push o).objs.size))) { s with heap := (s.heap.push o).push { cls := .type "enumerate", data := .fields #[.none, .bool false, .ref s.heap.objs.size, rawInt 0, .none, .none] } }) :=
  .of_wp fun prog w A R s ⟨h1, h⟩ => by
    obtain ⟨hp, g, d, tk, os⟩ := s
    have hsub := sub_enumerate
    have q1 : ∀ {A' : Around} {E : Value → Shared → Prop} {Q : Value → Shared → Prop}, Q (.ref hp.objs.size) ⟨hp.push o, g, d, tk, os⟩ → wpAny (model prog w) A' (pyIter v) Q E ⟨hp, g, d, tk, os⟩ :=
      fun q => B.iter prog w _ _ ⟨hp, g, d, tk, os⟩ _ h1 q
    wp_walk using q1
    refine wpAny_stack_any fun st => wpAny_pure ?_
    split
    · rename_i c _ _ _ _ _
      cases (c == Value.type "enumerate")
      · wp_walk using q1
        exact ⟨_, rfl, h⟩
      · wp_walk using q1
        exact ⟨_, rfl, h⟩
    · wp_walk using q1
      exact ⟨_, rfl, h⟩
section
variable {prog : Program} {w : World} {A : Around} {E : Value → Shared → Prop} {s : Shared}
theorem call_enum1 {v : Value} {o : Obj} {H : Heap → Prop} {Q : Value → Shared → Prop} (B : Begins v o H) (h1 : H s.heap)
    (h : ∀ h', IsEnum h' (s.heap.objs.size + 1) s.heap.objs.size 0 .none → h'.get? s.heap.objs.size = some o → h'.objs.size = s.heap.objs.size + 2 →
      (∀ b o, s.heap.get? b = some o → h'.get? b = some o) → Q (.ref (s.heap.objs.size + 1)) { s with heap := h' }) :
    wpAny (model prog w) A (call (.type "enumerate") [v]) Q E s := by
  refine callType_new F.called_enumerate (by decide) (F.typeCall_enumerate_1 _) (F.newCall_enumerate_1 _) (fun obj => F.args_object_init_2 obj _) F.entry_enumerate_new
    (meets_enum1 B) ⟨h1, ?_⟩
  have hz : (s.heap.push o).objs.size = s.heap.objs.size + 1 := Heap.size_push ..
  show _ ∧ _
  rw [hz]
  have he : IsEnum ((s.heap.push o).push { cls := .type "enumerate", data := .fields #[.none, .bool false, .ref s.heap.objs.size, rawInt 0, .none, .none] }) (s.heap.objs.size + 1) s.heap.objs.size 0 .none := by
    have := Heap.get?_push_size (s.heap.push o) (o := { cls := .type "enumerate", data := .fields #[.none, .bool false, .ref s.heap.objs.size, rawInt 0, .none, .none] }) rfl
    rw [hz] at this; exact this
  refine ⟨⟨_, he, rfl⟩, h _ he (Heap.get?_push_of_some _ (Heap.get?_push_size _ B.free)) (by rw [Heap.size_push, hz]) fun b o x => Heap.get?_push_of_some _ (Heap.get?_push_of_some _ x)⟩
end
end Lm
namespace Lm
open PySem L2 PyProof.Rows PySem.Spec
open PySem.F in
theorem pyNext_enumT_end {prog : Program} {w : World} {A : Around} {E : Value → Shared → Prop} {s : Shared} {e it l : Addr} {i : Nat} {items : Array Value} {old : Value} {Q : Option Value → Shared → Prop} (hh : A.handled = none)
    (he : IsEnum s.heap e it i old) (hit : s.heap.IsTupleIter it l i) (hl : s.heap.IsTuple l items) (hx : items[i]? = none)
    (hQ : ∀ h', Heap.ExtBut it s.heap h' → Q none { s with heap := h' }) : wpAny (model prog w) A (pyNext (.ref e)) Q E s := by
  have hT : s.TypeIs (.ref e) "enumerate" := ⟨_, he, rfl⟩
  unfold pyNext
  refine wpAny_bind (wpAny_attempt (wpAny_callSpecial?_slot (name := Str.ofString "__next__") hT F.slot_enumerate_next
    (wpAny_call_entry F.slot_enumerate_next hT F.entry_enumerate_next ?_ (F.args_enumerate_next_1 _))))
  show wpAny _ _ (field (.ref e) 2 >>= _) _ _ _
  refine wpAny_bind (wpAny_field he rfl (x := .ref it) rfl ?_)
  refine wpAny_bind (wpAny_nextOf_tuple_end (A := A.in1) hh hit hl hx fun h' x he' hx' => ?_)
  obtain ⟨o, ho, hc⟩ := hx'
  refine wpAny_bind (wpAny_isInstance (T := "StopIteration") (b := true) ⟨o, ho, hc⟩ isSubtype_stop ?_)
  exact wpAny_pure (hQ _ he')
/-- the tuple at a as it stands, each item in a new pair -/
def IteT (K : PySem.W.Frag) (a : Addr) : It :=
  ⟨fun i H => ∃ (xs : List V) (x : V), SqT K H a xs ∧ xs[i]? = some x, fun i H v H' => ∃ T x, v = .ref T ∧ H T = none ∧ H' = upd H T (.tup [.int (i : Nat), x]) ∧ ∀ xs, SqT K H a xs → xs[i]? = some x, fun i H => ∃ xs : List V, SqT K H a xs ∧ xs.length ≤ i⟩
theorem turn_enumT {P : Program} {w : World} {K : PySem.W.Frag} {elts : List Expr} {kk : Nat} {tpos : Pos} (a e it : Addr) (hai : a ≠ it) (hea : e ≠ a) :
    Turn P w K (.Tuple elts kk tpos) (IteT K a) [e, it] e (fun i h => (∃ old, IsEnum h e it ((i : Nat) : Int) old) ∧ h.IsTupleIter it a i ∧ e ≠ it) where
  mem := by simp
  obj := fun i h st b hb => by
    obtain ⟨⟨old, he⟩, ⟨o, ho, hc, hd⟩, _⟩ := st
    have e' : b = e ∨ b = it := by simpa using hb
    rcases e' with z | z
    · rw [z]; exact ⟨_, he, fun v q => nomatch q⟩
    · rw [z]; exact ⟨o, ho, fun v q => by rw [hd] at q; cases q⟩
  keep := fun i h h' st k => let ⟨⟨old, he⟩, hi, hne⟩ := st; ⟨⟨old, k e (by simp) _ he⟩, hi.at fun o q => k it (by simp) o q, hne⟩
  item := by
    intro X hP hw hK hc i pins s σ H E I hf st hg
    subst hP hw hK
    obtain ⟨⟨old, he⟩, hit, hne⟩ := st
    obtain ⟨xs, x, hq, hx⟩ := hg
    obtain ⟨its, rv, p, hz⟩ := I.tuple hq
    obtain ⟨u, hu, ru⟩ := rv.get hx
    have hel : e < s.heap.objs.size := Heap.lt_size he
    have hil : it < s.heap.objs.size := by obtain ⟨_, q, _⟩ := hit; exact Heap.lt_size q
    have hi : i < its.toArray.size := by
      have := (List.getElem?_eq_some_iff.mp hu).1
      simpa using this
    refine wpAny_pyNext_enum_itemD (Draws.tuple (A := X.A.in1) (I.ok.hd hc) it a hai its.toArray) he ⟨hit, p⟩ hi hne (by simp [hne, hea]) fun x' h' tk hx' ho hst' hT hsz hk => ?_
    have hit' := hst'.1
    have ex' : x' = u := by
      have : its[i]? = some x' := by simpa using hx'
      rw [hu] at this; exact (Option.some.inj this).symm
    subst ex'
    refine ⟨_, rfl, wpAny_letOwnedTupleGo_enum (s := { s with heap := h', toks := tk + 1 }) ho fun h'' he' sb => ?_⟩
    have hT2 : h''.get? s.heap.objs.size = some { cls := .type "tuple", data := .seq #[.int i tk, x'] } := (sb.2 _ (Nat.ne_of_gt hel)).trans hT
    have new : ObjOk X.prog X.w (upd H s.heap.objs.size (.tup [.int (i : Nat), x])) h'' s.heap.objs.size (.tup [.int (i : Nat), x]) :=
      ⟨by show 2 ≤ sizeLine; decide, [.int i tk, x'], .cons ⟨_, rfl⟩ (.cons ru .nil), ⟨_, hT2, rfl, _, rfl⟩⟩
    have I1 : Inv X pins σ (upd H s.heap.objs.size (.tup [.int (i : Nat), x])) { s with heap := h'', toks := tk + 1 } :=
      I.turnedNew (ch := [e, it]) (fun b ob hb q => (sb.2 b (fun z => hb (by simp [z]))).trans (hk b ob (fun z => hb (by simp [z])) (fun z => hb (by simp [z])) q)) hf (Nat.le_refl _) new
    refine ⟨.ref s.heap.objs.size, _, I1, rfl, ⟨_, x, rfl, I.hok.fresh (Nat.le_refl _), rfl, fun ys hy => by rw [I.tuple_inj hy hq]; exact hx⟩, ⟨⟨x', ?_⟩, hit'.at fun o q => (sb.2 it (Ne.symm hne)).trans q, hne⟩, fun b hb => ?_⟩
    · have e1 : ((i + 1 : Nat) : Int) = (i : Int) + 1 := by omega
      rw [e1]; exact he'
    · have hb' : b < s.heap.objs.size := by
        have e' : b = e ∨ b = it := by simpa using hb
        rcases e' with z | z
        · rw [z]; exact hel
        · rw [z]; exact hil
      rw [upd_ne (Nat.ne_of_lt hb')]
      exact (hf b hb).1
  done := by
    intro X hP hw hK hc i pins s σ H E I hf st hg
    subst hP hw hK
    obtain ⟨⟨old, he⟩, hit, hne⟩ := st
    obtain ⟨xs, hq, hx⟩ := hg
    obtain ⟨its, rv, p, hz⟩ := I.tuple hq
    obtain ⟨f0, f1, f2, f3, f4, f5⟩ := hf it (by simp)
    have hl := rv.length
    exact pyNext_enumT_end (I.ok.hd hc) he hit p (by simp; omega) fun h' eb => ⟨rfl, I.turned (t' := s.toks) (fun b o hb q => eb b o hb q) f0 f1 f3 f4 f5⟩
  self := fun A i s Q E st h => let ⟨⟨_, he⟩, _⟩ := st; wpAny_pyIter_enum he h
def iEnumA (K : PySem.W.Frag) (ta : TA) : TI := fun σ H R => ta σ H fun vs H1 => ∃ a xs, vs = [.ref a] ∧ ((SqL K H1 a xs ∧ R (Ite K a) H1) ∨ (SqT K H1 a xs ∧ R (IteT K a) H1))
theorem pi_enumA {X : Cx} {e : Expr} {ta : TA} {p pos tpos : Pos} {elts : List Expr} {kk : Nat} (hg : Gl X "enumerate") (hm : X.mg "enumerate" = none) (ha : PA X [e] ta) (hs : starEach [e] X.env = [(false, eval e X.env)] := by rfl) :
    PI X (.Tuple elts kk tpos) (.Call (.Name "enumerate" p) [e] [] pos) (iEnumA X.K ta) := by
  refine ⟨fun pins s σ H R I h => ?_⟩
  refine Call_ (ld_blt I hg hm boot_enumerate (PyProof.Rows.callWith_type1 (thn (ha.run pos pins s σ H _ I h) fun us s1 ⟨vs, H1, I1, r1, q1⟩ => ?_) hs rfl))
  obtain ⟨a, xs, ex, q1⟩ := q1
  subst ex
  cases r1 with
  | cons r rr =>
    cases rr
    cases r
    have fresh2 : ∀ b, b ∈ [s1.heap.objs.size + 1, s1.heap.objs.size] → FpOk X pins H1 b := fun b hb => by
      have e' : b = s1.heap.objs.size + 1 ∨ b = s1.heap.objs.size := by simpa using hb
      have hle : s1.heap.objs.size ≤ b := by
        rcases e' with z | z
        · rw [z]; exact Nat.le_add_right _ _
        · rw [z]; exact Nat.le_refl _
      exact I1.fpOk hle (I1.hok.fresh hle)
    rcases q1 with ⟨hq, q⟩ | ⟨hq, q⟩
    · obtain ⟨its, rv, p', hz⟩ := I1.list hq
      refine call_enumerate_list p'.isList fun h' he hit hsz hk => wpAny_pyIter_enum he ?_
      have I2 : Inv X pins σ H1 { s1 with heap := h' } := I1.kept (t' := s1.toks) hk
      exact ⟨s1.heap.objs.size + 1, [s1.heap.objs.size + 1, s1.heap.objs.size], _, _, H1, rfl, I2, turn_enum a (s1.heap.objs.size + 1) s1.heap.objs.size, ⟨⟨.none, he⟩, hit, Nat.succ_ne_self _⟩, fresh2, q⟩
    · obtain ⟨its, rv, p', hz⟩ := I1.tuple hq
      obtain ⟨o1, ho1, _⟩ := id p'
      have hlt := Heap.lt_size ho1
      refine call_enum1 (begins_tuple a its.toArray) (show s1.heap.IsTuple a its.toArray from p') fun h' he hit hsz hk => wpAny_pyIter_enum he ?_
      have I2 : Inv X pins σ H1 { s1 with heap := h' } := I1.kept (t' := s1.toks) hk
      exact ⟨s1.heap.objs.size + 1, [s1.heap.objs.size + 1, s1.heap.objs.size], _, _, H1, rfl, I2, turn_enumT a (s1.heap.objs.size + 1) s1.heap.objs.size (Nat.ne_of_lt hlt) (Nat.ne_of_gt (Nat.lt_succ_of_lt hlt)), ⟨⟨.none, he⟩, ⟨_, hit, rfl, rfl⟩, Nat.succ_ne_self _⟩, fresh2, q⟩
theorem walk_enumT {K : PySem.W.Frag} {a : Addr} {xs : List V} : Walk (IteT K a) xs.length (fun H => SqT K H a xs) (YPair (fun i => some (.int (i : Nat))) (fun i => xs[i]?)) :=
  ⟨fun i _ hi q => ⟨xs, xs[i], q, by simp [hi]⟩, fun _ q => ⟨xs, q, Nat.le_refl _⟩, fun i H v H' _ q ⟨T, x, e1, e2, e3, e4⟩ => ⟨T, _, x, e1, e2, e3, rfl, e4 xs q⟩⟩
end Lm

namespace Lm
open PySem L2
/-! ### defs, methods, classes as they stand behind the top, with their promises -/
structure DefOk (P : Program) (w : World) (K : PySem.W.Frag) (mg : Str → Option Value) (base : Heap) (k : Nat) (x : Str) (f : Addr) (fd : FuncData) (ps : List Str) (sp : Sp) : Prop where
  ok : FnOk P w K mg base CX0 k f fd ps sp
  kp : PySem.W.keepIn K (.ref f) = true
  bd : Binds K fd ps []
  mg : mg x = some (.ref f)
structure MetOk (P : Program) (w : World) (K : PySem.W.Frag) (mg : Str → Option Value) (base : Heap) (k : Nat) (C : Addr) (m : Str) (f : Addr) (fd : FuncData) (ps : List Str) (sp : Sp) : Prop where
  ok : FnOk P w K mg base CX0 k f fd ps sp
  bd : Binds K fd ps []
  mt : Meth K C m f
  cl : Cls K C
structure ClsOk (P : Program) (w : World) (K : PySem.W.Frag) (mg : Str → Option Value) (base : Heap) (k : Nat) (x : Str) (C f : Addr) (fd : FuncData) (ps : List Str) (sp : Sp) : Prop where
  ok : FnOk P w K mg base CX0 k f fd ps sp
  bd : Binds K fd ps []
  mkr : Mk K C f
  cl : Cls K C
  mg : mg x = some (.ref C)
section
variable {X : Cx} {k : Nat} {f C : Addr} {fd : FuncData} {ps : List Str} {sp : Sp} {x m : Str} {p pos apos : Pos} {e o : Expr} {es : List Expr} {ta : TE} {t : TA}
theorem pe_d (D : DefOk X.prog X.w X.K X.mg X.base k x f fd ps sp) (hr : Room k X.A) (ha : PA X (e :: es) t) (hg : Gl X x := by rfl) (hdb : (x == ("__debug__" : Str)) = false := by decide)
    (he : starEach (e :: es) X.env = (false, eval e X.env) :: starEach es X.env := by rfl) (hpl : (backTo pos (starEach es X.env)).any (·.1) = false := by rfl) :
    PE X (.Call (.Name x p) (e :: es) [] pos) (tCall sp [] E0 t) := pe_call D.ok hr hg D.mg D.kp D.bd .nil pass0 ha hdb he hpl
theorem pe_d0 (D : DefOk X.prog X.w X.K X.mg X.base k x f fd ps sp) (hr : Room k X.A) (hg : Gl X x := by rfl) (hdb : (x == ("__debug__" : Str)) = false := by decide) :
    PE X (.Call (.Name x p) [] [] pos) (tCall sp [] E0 tNil) := pe_call0 D.ok hr hg D.mg D.kp D.bd .nil pass0 hdb
theorem pe_mk (D : ClsOk X.prog X.w X.K X.mg X.base k x C f fd ps sp) (hr : Room (k + 1) X.A) (ha : PA X (e :: es) t) (hg : Gl X x := by rfl) (hdb : (x == ("__debug__" : Str)) = false := by decide)
    (he : starEach (e :: es) X.env = (false, eval e X.env) :: starEach es X.env := by rfl) (hpl : (backTo pos (starEach es X.env)).any (·.1) = false := by rfl) :
    PE X (.Call (.Name x p) (e :: es) [] pos) (tMake C sp [] E0 t) := pe_make D.mkr D.ok hr hg D.mg D.bd .nil pass0 ha hdb he hpl
theorem pe_m {pl : Sem Bool} (D : MetOk X.prog X.w X.K X.mg X.base k C m f fd ps sp) (hr : Room k X.A) (he : PE X o ta) (ha : PA X (e :: es) t)
    (hst : starEach (e :: es) X.env = (false, eval e X.env) :: starEach es X.env := by rfl) (hpl : (backTo pos (starEach es X.env)).any (·.1) = false := by rfl)
    (ht : eval (.Call (.Attribute o m apos) (e :: es) [] pos) X.env = (do
      let ov ← eval o X.env
      standAt apos.atName
      let (f, first) ← holding [ov] (getMethod ov m pl)
      callWith pos f first (backTo pos (starEach (e :: es) X.env)) (backToKw pos (keywordEach [] X.env))) := by rfl) :
    PE X (.Call (.Attribute o m apos) (e :: es) [] pos) (tMeth C m sp [] E0 ta t) := pe_meth (pl := pl) he D.cl D.mt D.ok hr D.bd .nil pass0 ha hst hpl ht
theorem pe_m0 {pl : Sem Bool} (D : MetOk X.prog X.w X.K X.mg X.base k C m f fd ps sp) (hr : Room k X.A) (he : PE X o ta)
    (ht : eval (.Call (.Attribute o m apos) [] [] pos) X.env = (do
      let ov ← eval o X.env
      standAt apos.atName
      let (f, first) ← holding [ov] (getMethod ov m pl)
      callWith pos f first (backTo pos (starEach [] X.env)) (backToKw pos (keywordEach [] X.env))) := by rfl) :
    PE X (.Call (.Attribute o m apos) [] [] pos) (tMeth C m sp [] E0 ta tNil) := pe_meth0 (pl := pl) he D.cl D.mt D.ok hr D.bd .nil pass0 ht
theorem MetOk.len (D : MetOk X.prog X.w X.K X.mg X.base k C "__len__" f fd ps sp) (hr : Room (k + 1) X.A) : CallR X (.builtin "len") (rLenOwn C sp E0) := call_lenOwn D.ok D.mt.at_ D.mt.fn D.bd hr pass0
theorem MetOk.isin (D : MetOk X.prog X.w X.K X.mg X.base k C "__contains__" f fd ps sp) (hr : Room k X.A) : OpR X (compareOp .In) (rInOwn C sp E0 false) := op_inOwn D.ok D.mt.at_ D.mt.fn D.bd hr pass0
theorem MetOk.notin (D : MetOk X.prog X.w X.K X.mg X.base k C "__contains__" f fd ps sp) (hr : Room k X.A) : OpR X (compareOp .NotIn) (rInOwn C sp E0 true) := op_notInOwn D.ok D.mt.at_ D.mt.fn D.bd hr pass0
theorem MetOk.bin {op : Operator} (D : MetOk X.prog X.w X.K X.mg X.base k C (PySem.dunder op.info.2) f fd ps sp) (hc : PySem.W.selfFirst X.K C = true) (hr : Room k X.A) : OpR X (binaryOp op) (rBinOwn C sp E0) := op_binOwn D.ok hc D.mt.at_ D.mt.fn D.bd hr pass0
theorem MetOk.le (D : MetOk X.prog X.w X.K X.mg X.base k C "__le__" f fd ps sp) (hr : Room k X.A) : OpR X (compareOp .LtE) (rBinOwn C sp E0) := op_cmpOwn (fun _ _ => rfl) D.ok D.mt.at_ D.mt.fn D.bd hr pass0
theorem MetOk.lt (D : MetOk X.prog X.w X.K X.mg X.base k C "__lt__" f fd ps sp) (hr : Room k X.A) : OpR X (compareOp .Lt) (rBinOwn C sp E0) := op_cmpOwn (fun _ _ => rfl) D.ok D.mt.at_ D.mt.fn D.bd hr pass0
theorem MetOk.eq (D : MetOk X.prog X.w X.K X.mg X.base k C "__eq__" f fd ps sp) (hr : Room k X.A) : OpR X (compareOp .Eq) (rBinOwn C sp E0) := op_cmpOwn (fun _ _ => rfl) D.ok D.mt.at_ D.mt.fn D.bd hr pass0
/-- x != y of two instances of a class with an own == alone -/
def rNeOwn (C : Addr) (sp : Sp) (E : XK) : R2 := fun x y H Q => ∃ a dx fs b dy gs, x = .ref a ∧ y = .ref b ∧ H a = some (.ins C dx fs) ∧ H b = some (.ins C dy gs) ∧ sp [x, y] H (fun z H' => ∃ k : Bool, z = .bl k ∧ Q (.bl (!k)) H') E
theorem MetOk.ne (D : MetOk X.prog X.w X.K X.mg X.base k C "__eq__" f fd ps sp) (hn : PySem.W.findIn X.K (.ref C) "__ne__" = some (some (.builtin "object.__ne__"))) (ho : PySem.W.subIn X.K (.ref C) (.type "object") = some true) (hr : Room (k + 1) X.A) :
    OpR X (compareOp .NotEq) (rNeOwn C sp E0) := by
  intro pins s σ H x y v u Q I rx ry h
  obtain ⟨a, dx, fs, b, dy, gs, rfl, rfl, ha, hb', q⟩ := h
  cases (show v = Value.ref a from rx)
  cases (show u = Value.ref b from ry)
  obtain ⟨mA, J, _⟩ := ins_get I.hok ha
  obtain ⟨mB, J', _⟩ := ins_get I.hok hb'
  obtain ⟨od, J, _⟩ := J.look
  obtain ⟨od', J', _⟩ := J'.look
  obtain ⟨m, hF⟩ := I.fr
  show wpAny _ _ (richCompare .NotEq _ _) _ _ _
  refine ne_own (tb := .ref C) (by have := hr.un; omega) hF I.ok.mod.kin J J'.type (by simp [PySem.W.notFirst]) hn ho D.mt.at_ D.mt.fn
    (wpAny_mono (run_in (us := [.ref a, .ref b]) (vs := [.ref a, .ref b]) D.ok hr.in1 I.env0.in1 D.bd pass0 I (.cons rfl (.cons rfl .nil)) q) (fun w s' z => ?_) fun _ _ x => x)
  obtain ⟨z', H', I', rz, b, ez, qz⟩ := z
  subst ez
  cases (show w = Value.bool b from rz)
  exact ⟨b, rfl, .bl _, H', I', rfl, qz⟩
end
/-! ### heaps -/
/-- all that was tracked is as it was, but perhaps what stands at st -/
def Kp (st : Addr) (H H' : Hp) : Prop := ∀ b o, b ≠ st → H b = some o → H' b = some o
theorem Kp.refl (st : Addr) (H : Hp) : Kp st H H := fun _ _ _ h => h
theorem Kp.trans {st : Addr} {H H1 H2 : Hp} (a : Kp st H H1) (b : Kp st H1 H2) : Kp st H H2 := fun c o n h => b c o n (a c o n h)
theorem Kp.of {st : Addr} {H H' : Hp} (s : Same H H') : Kp st H H' := fun b o _ h => s b o h
theorem Kp.upd (st : Addr) (H : Hp) (o : HO) : Kp st H (upd H st o) := fun b u n h => by rw [upd_ne n]; exact h
theorem Kp.free {st : Addr} {H H' : Hp} (e : Kp st H H') {l : Addr} (hl : l ≠ st) (h : H' l = none) : H l = none := by
  cases q : H l with
  | none => rfl
  | some o => rw [e l o hl q] at h; cases h
theorem Same.upd' {H : Hp} {p : Addr} {o : HO} (h : H p = none) : Same H (upd H p o) := fun a u e => by rw [upd_ne (ne_of_none e h)]; exact e
/-- an object that H does not know may change -/
theorem Same.mut {H H' : Hp} {p : Addr} {o : HO} (e : Same H H') (h : H p = none) : Same H (upd H' p o) := fun a u ha => by rw [upd_ne (ne_of_none ha h)]; exact e a u ha
theorem Kp.mut {st : Addr} {H H' : Hp} {p : Addr} {o : HO} (e : Kp st H H') (h : H p = none) : Kp st H (L2.upd H' p o) := fun a u hn ha => by rw [upd_ne (ne_of_none ha h)]; exact e a u hn ha
theorem Kp.seqL {st : Addr} {K : PySem.W.Frag} {H H' : Hp} {a : Addr} {xs : List V} (e : Kp st H H') (hn : a ≠ st) (h : SqL K H a xs) : SqL K H' a xs := by
  rcases h with (h | ⟨o, h⟩) | h
  · exact .inl (.inl (e _ _ hn h))
  · exact .inl (.inr ⟨o, e _ _ hn h⟩)
  · exact .inr h
theorem Kp.seqT {st : Addr} {K : PySem.W.Frag} {H H' : Hp} {a : Addr} {xs : List V} (e : Kp st H H') (hn : a ≠ st) (h : SqT K H a xs) : SqT K H' a xs := by
  rcases h with (h | ⟨o, h⟩) | h
  · exact .inl (.inl (e _ _ hn h))
  · exact .inl (.inr ⟨o, e _ _ hn h⟩)
  · exact .inr h
theorem Same.seqT {K : PySem.W.Frag} {H H' : Hp} {a : Addr} {xs : List V} (e : Same H H') (h : SqT K H a xs) : SqT K H' a xs := by
  rcases h with (h | ⟨o, h⟩) | h
  · exact .inl (.inl (e _ _ h))
  · exact .inl (.inr ⟨o, e _ _ h⟩)
  · exact .inr h
/-- the law's state: the cells, how many were taken, what is left, whether it is far -/
structure StAt (H : Hp) (st c : Addr) : Prop where
  ob : ∃ (n l : Int) (b : Bool), H st = some (.lst [.ref c, .int n, .int l, .bl b])
  ce : ∃ ns : List Int, H c = some (.lst (ns.map V.int)) ∧ ns.length ≤ 63
  ne : c ≠ st
theorem StAt.same {H H' : Hp} {st c : Addr} (S : StAt H st c) (e : Same H H') : StAt H' st c := by
  obtain ⟨⟨n, l, b, h⟩, ⟨ns, h2, h3⟩, ne⟩ := S
  exact ⟨⟨n, l, b, e _ _ h⟩, ⟨ns, e _ _ h2, h3⟩, ne⟩
/-- another object changes -/
theorem StAt.mut {H : Hp} {st c p : Addr} {o : HO} (S : StAt H st c) (h1 : p ≠ st) (h2 : p ≠ c) : StAt (upd H p o) st c := by
  obtain ⟨⟨n, l, b, h⟩, ⟨ns, h4, h3⟩, ne⟩ := S
  exact ⟨⟨n, l, b, by rw [upd_ne (Ne.symm h1)]; exact h⟩, ⟨ns, by rw [upd_ne (Ne.symm h2)]; exact h4, h3⟩, ne⟩
theorem StAt.of_new {H : Hp} {st c p : Addr} (S : StAt H st c) (h : H p = none) : p ≠ st ∧ p ≠ c := by
  obtain ⟨⟨n, l, b, h1⟩, ⟨ns, h4, h3⟩, ne⟩ := S
  exact ⟨(ne_of_none h1 h).symm, (ne_of_none h4 h).symm⟩
end Lm

namespace Lm
open PySem PySem.W PySem.Calls PyProof.Rows
section
variable {prog : Program} {w : World} {A : Around} {E : Value → Shared → Prop} {s : Shared} {K : Frag} {x C L f f' dx : Addr} {h₀ : Heap} {m : Str → Option Value} {od : Option Obj}
theorem add_declines {C : Addr} {dx : Addr} (n : Int) (t : Tok) (x : Addr) : GivesAt (fun s => s.heap.get? x = some (instObj C dx)) (Builtin.«int.__add__» ⟨[.int n t, .ref x], []⟩) (.val .notImplemented) := by
  intro prog w A R s hx h
  obtain ⟨hp, g, d, tk, os⟩ := s
  have hx : hp.get? x = some (instObj C dx) := hx
  unfold Builtin.«int.__add__» PySem.Builtin.Int.intBinary
  repeat (first
    | (refine wpAny_bind (m := asInt? (.ref x)) ?_; unfold asInt?; refine wpAny_bind (wpAny_load (s := ⟨hp, g, d, tk, os⟩) hx ?_); dsimp only [instObj])
    | wp_step)
  exact h
theorem ksp_addR {n : Int} {t : Tok} {Q : Value → Shared → Prop} (Fh : Fr h₀ L s.heap m) (X₀ : K.In h₀) (I : InstAt s.heap x (instObj C dx) C od) (hc : selfFirst K C = true)
    (hs : findIn K (.ref C) "__add__" = some (some (.ref f'))) (hr : findIn K (.ref C) "__radd__" = some (some (.ref f))) (hf : isFn K (.ref f) = true) (hsub : subIn K (.ref C) (.type "int") = some false)
    (h : wpAny (model prog w) A (call (.ref f) [.ref x, .int n t]) (PySem.W.CmpBack Q) E s) : wpAny (model prog w) A (binaryOp .Add (.int n t) (.ref x)) Q E s := by
  have X := X₀.keeps Fh.keep
  obtain ⟨cd, rest, hcd, hm⟩ := ksp_first hc
  have I' := I
  obtain ⟨hh, g, d, tt, os⟩ := s
  have L1 : Looks (model prog w) hh (typeOf (.ref x)) (.ref C) := I.type
  have L3 : Looks (model prog w) hh (fillsNumberSlot (.ref C) "add") true := fills_K X hcd hm hs
  have L5 : Looks (model prog w) hh (isSubtype (.ref C) (.type "int")) false := looks_subIn X hsub
  have L2 : Looks (model prog w) hh (typeOf (.int n t)) (.type "int") := Looks.of_pure rfl
  have L4 : Looks (model prog w) hh (fillsNumberSlot (.type "int") "add") true := Looks.of_pure F.fills_int_add
  have hne : (Value.type "int" == Value.ref C) = false := Bool.eq_false_iff.mpr fun q => by cases beq_iff_eq.mp q
  have two : ∀ {Q' : Option Value → Shared → Prop}, (∀ v s', Q v s' → Q' (some v) s') → wpAny (model prog w) A (tryMethod (.ref x) (dunderR "add") (.int n t)) Q' E ⟨hh, g, d, tt, os⟩ := fun hq => by
    refine wpAny_mono (ksp_try (Q := Q) X I' hr hf h) (fun r s' z => ?_) fun _ _ e => e
    obtain ⟨v, rfl, q⟩ := z
    exact hq _ _ q
  have one : ∀ {Q' : Option Value → Shared → Prop}, Q' none ⟨hh, g, d, tt, os⟩ → wpAny (model prog w) A (tryMethod (.int n t) (PySem.dunder "add") (.ref x)) Q' E ⟨hh, g, d, tt, os⟩ := fun hq =>
    wpAny_tryMethod_declines (typeIs_int _ n t) F.slot_int_add (call_givesAt F.slot_int_add (typeIs_int _ n t) F.entry_int_add (F.args_int_add_2 _ _) (add_declines (C := C) (dx := dx) n t x) I'.at_ ⟨rfl, hq⟩)
  simp only [binaryOp]
  refine wpAny_holding (wpAny_bind ?_)
  unfold binaryOp1
  refine wpAny_bind (L2.at (wpAny_bind (L1.at (wpAny_bind (L4.at ?_)))))
  simp only [hne, Bool.false_eq_true, if_false]
  refine wpAny_bind (L3.at ?_)
  simp only [Bool.and_self, if_true]
  refine wpAny_bind (L5.at ?_)
  simp only [Bool.false_eq_true, if_false, Bool.not_false, Bool.and_self, if_true]
  refine wpAny_bind (wpAny_pure ?_)
  simp only [Bool.false_eq_true, if_false]
  refine wpAny_bind (one ?_)
  dsimp only
  refine wpAny_bind (two fun v s' q => ?_)
  dsimp only
  exact wpAny_bind (wpAny_rule (wpAny_pure (wpAny_pure q)))
end
end Lm

namespace Lm
open PySem L2
section
variable {X : Cx} {CX : CXT} {k : Nat} {f f' C : Addr} {fd : FuncData} {ps : List Str} {sp : Sp} {E : XK}
/-- x op n, x an instance of the class at C, n an integer -/
def rBinInt (C : Addr) (sp : Sp) (E : XK) : R2 := fun x y H Q => ∃ a dx fs n, x = .ref a ∧ y = .int n ∧ H a = some (.ins C dx fs) ∧ sp [x, y] H Q E
/-- what the text says of the class's own op and of the integers' -/
structure BinInt (K : PySem.W.Frag) (C : Addr) (nm : String) : Prop where
  self : PySem.W.selfFirst K C = true
  r : ∃ rc, PySem.W.findIn K (.ref C) (PySem.dunderR nm) = some rc ∧ (rc = none ∨ ∃ g : Addr, rc = some (.ref g))
  i1 : ∃ fo, PySem.W.findIn K (.type "int") (PySem.dunder nm) = some fo
  i2 : ∃ ro, PySem.W.findIn K (.type "int") (PySem.dunderR nm) = some ro
  sub : PySem.W.subIn K (.type "int") (.ref C) = some false
theorem op_binInt {op : Operator} (F : FnOk X.prog X.w X.K X.mg X.base CX k f fd ps sp) (B : BinInt X.K C op.info.2) (hs : PySem.W.findIn X.K (.ref C) (PySem.dunder op.info.2) = some (some (.ref f))) (hf : PySem.W.isFn X.K (.ref f) = true) (hb : Binds X.K fd ps []) (hr : Room k X.A) (hx : Passes CX X E) :
    OpR X (binaryOp op) (rBinInt C sp E) := by
  intro pins s σ H x y v u Q I rx ry h
  obtain ⟨a, dx, fs, n, rfl, rfl, ha, q⟩ := h
  cases (show v = Value.ref a from rx)
  obtain ⟨t, e⟩ := (show ∃ t, u = Value.int n t from ry)
  subst e
  obtain ⟨mA, J, _⟩ := ins_get I.hok ha
  obtain ⟨od, J, _⟩ := J.look
  obtain ⟨m, hF⟩ := I.fr
  obtain ⟨rc, b1, b2⟩ := B.r
  obtain ⟨fo, b3⟩ := B.i1
  obtain ⟨ro, b4⟩ := B.i2
  refine PySem.W.ksp_binT (T := "int") hF I.ok.mod.kin J rfl B.self hs hf b1 b2 b3 b4 B.sub (wpAny_mono (run_in (us := [.ref a, .int n t]) (vs := [.ref a, .int n]) F hr I.env0 hb hx I (.cons rfl (.cons ⟨t, rfl⟩ .nil)) q) (fun w s' z => ?_) fun _ _ x => x)
  obtain ⟨z', H', I', rz, qz⟩ := z
  exact cmpBack rz ⟨z', H', I', rz, qz⟩
/-- n + x -/
def rAddR (C : Addr) (sp : Sp) (E : XK) : R2 := fun x y H Q => ∃ a dx fs n, x = .int n ∧ y = .ref a ∧ H a = some (.ins C dx fs) ∧ sp [y, x] H Q E
theorem op_addR (F : FnOk X.prog X.w X.K X.mg X.base CX k f fd ps sp) (hc : PySem.W.selfFirst X.K C = true) (hs' : PySem.W.findIn X.K (.ref C) "__add__" = some (some (.ref f'))) (hsub : PySem.W.subIn X.K (.ref C) (.type "int") = some false)
    (hs : PySem.W.findIn X.K (.ref C) "__radd__" = some (some (.ref f))) (hf : PySem.W.isFn X.K (.ref f) = true) (hb : Binds X.K fd ps []) (hr : Room k X.A) (hx : Passes CX X E) :
    OpR X (binaryOp .Add) (rAddR C sp E) := by
  intro pins s σ H x y v u Q I rx ry h
  obtain ⟨a, dx, fs, n, rfl, rfl, ha, q⟩ := h
  cases (show u = Value.ref a from ry)
  obtain ⟨t, e⟩ := (show ∃ t, v = Value.int n t from rx)
  subst e
  obtain ⟨mA, J, _⟩ := ins_get I.hok ha
  obtain ⟨od, J, _⟩ := J.look
  obtain ⟨m, hF⟩ := I.fr
  refine ksp_addR hF I.ok.mod.kin J hc hs' hs hf hsub (wpAny_mono (run_in (us := [.ref a, .int n t]) (vs := [.ref a, .int n]) F hr I.env0 hb hx I (.cons rfl (.cons ⟨t, rfl⟩ .nil)) q) (fun w s' z => ?_) fun _ _ x => x)
  obtain ⟨z', H', I', rz, qz⟩ := z
  exact cmpBack rz ⟨z', H', I', rz, qz⟩
theorem MetOk.bini {op : Operator} (D : MetOk X.prog X.w X.K X.mg X.base k C (PySem.dunder op.info.2) f fd ps sp) (B : BinInt X.K C op.info.2) (hr : Room k X.A) : OpR X (binaryOp op) (rBinInt C sp E0) := op_binInt D.ok B D.mt.at_ D.mt.fn D.bd hr pass0
theorem MetOk.addr (D : MetOk X.prog X.w X.K X.mg X.base k C "__radd__" f fd ps sp) (hc : PySem.W.selfFirst X.K C = true) (hs' : PySem.W.findIn X.K (.ref C) "__add__" = some (some (.ref f'))) (hsub : PySem.W.subIn X.K (.ref C) (.type "int") = some false) (hr : Room k X.A) :
    OpR X (binaryOp .Add) (rAddR C sp E0) := op_addR D.ok hc hs' hsub D.mt.at_ D.mt.fn D.bd hr pass0
theorem MetOk.gt (D : MetOk X.prog X.w X.K X.mg X.base k C "__gt__" f fd ps sp) (hr : Room k X.A) : OpR X (compareOp .Gt) (rBinOwn C sp E0) := op_cmpOwn (fun _ _ => rfl) D.ok D.mt.at_ D.mt.fn D.bd hr pass0
theorem MetOk.ge (D : MetOk X.prog X.w X.K X.mg X.base k C "__ge__" f fd ps sp) (hr : Room k X.A) : OpR X (compareOp .GtE) (rBinOwn C sp E0) := op_cmpOwn (fun _ _ => rfl) D.ok D.mt.at_ D.mt.fn D.bd hr pass0
/-- a property of a class, with its getter's promise -/
structure PrpOk (P : Program) (w : World) (K : PySem.W.Frag) (mg : Str → Option Value) (base : Heap) (k : Nat) (C p : Addr) (m : Str) (f : Addr) (fd : FuncData) (ps : List Str) (sp : Sp) : Prop where
  ok : FnOk P w K mg base CX0 k f fd ps sp
  bd : Binds K fd ps []
  pr : PropOf K C m p f
  cl : Cls K C
theorem pe_p {p : Addr} {m : Str} {e : Expr} {pos : Pos} {ta : TE} (D : PrpOk X.prog X.w X.K X.mg X.base k C p m f fd ps sp) (hr : Room (k + 1) X.A) (he : PE X e ta) (hab : attributeBase e m X.env (eval e X.env) = eval e X.env := by rfl) :
    PE X (.Attribute e m pos) (tProp C sp [] E0 ta) := pe_prop he D.cl D.pr D.ok hr D.bd .nil pass0 hab
end
end Lm

namespace Lm
open PySem L2 PyProof.Rows
section
variable {prog : Program} {w : World} {A : Around} {E : Value → Shared → Prop} {s : Shared}
theorem isList_push {h : Heap} {l : Addr} {items : Array Value} {o : Obj} (x : h.IsList l items) : (h.push o).IsList l items := by
  obtain ⟨ol, hol, r⟩ := x
  exact ⟨ol, Heap.get?_push_of_some _ hol, r⟩
theorem isList_ext {h h' : Heap} {it l : Addr} {items : Array Value} (x : h.IsList l items) (e : Heap.ExtBut it h h') (n : l ≠ it) : h'.IsList l items := by
  obtain ⟨ol, hol, r⟩ := x
  exact ⟨ol, e l ol n hol, r⟩
theorem draw_list {it t : Addr} {items : Array Value} (hne : t ≠ it) : ∀ (n i : Nat) (s : Shared) (Q : List Value → Shared → Prop), s.heap.IsListIter it t i → s.heap.IsList t items → i + n ≤ items.size →
    (∀ h', h'.IsListIter it t (i + n) → Heap.SameBut it s.heap h' → Q ((items.toList.drop i).take n) { s with heap := h' }) → wpAny (model prog w) A (draw (.ref it) n) Q E s
  | 0, i, s, Q, hit, _, _, hQ => by
    show wpAny _ _ (pure []) Q E s
    exact wpAny_pure (by simpa using hQ s.heap hit (Heap.SameBut.refl ..))
  | n + 1, i, s, Q, hit, ht, hle, hQ => by
    have hlt : i < items.size := by omega
    show wpAny _ _ (pyNext (.ref it) >>= _) Q E s
    refine wpAny_bind (wpAny_pyNext_list_item hit ht (x := items[i]) (by simp [hlt]) fun h₁ hit₁ hs₁ => ?_)
    refine wpAny_bind (wpAny_holding (draw_list hne n (i + 1) _ _ hit₁ (isList_ext ht hs₁.extBut hne) (by omega) fun h₂ hit₂ hs₂ => wpAny_pure ?_))
    have hd : items.toList.drop i = items[i] :: items.toList.drop (i + 1) := by simp [List.drop_eq_getElem_cons, hlt]
    have := hQ h₂ (by rw [show i + (n + 1) = i + 1 + n by omega]; exact hit₂) (hs₁.trans hs₂)
    rw [hd, List.take_succ_cons] at this
    exact this
theorem unpackItems_list {t : Addr} {items : Array Value} {Q : List Value → Shared → Prop} (hh : A.handled = none) (ht : s.heap.IsList t items)
    (hQ : ∀ h', Heap.ExtBut s.heap.objs.size s.heap h' → Q items.toList { s with heap := h' }) : wpAny (model prog w) A (unpackItems (.ref t) items.size none) Q E s := by
  have hlt : t ≠ s.heap.objs.size := by obtain ⟨o, ho, _⟩ := ht; exact Nat.ne_of_lt (Heap.lt_size ho)
  unfold unpackItems
  refine wpAny_bind ?_
  · unfold notIterableAtAll
    refine wpAny_bind (wpAny_specialOf ht.typeIs PySem.F.slot_list_iter.lookup ?_)
    refine wpAny_pure ?_
    simp only [Bool.false_eq_true, if_false]
    refine wpAny_bind (wpAny_holding (wpAny_pyIter_list ht ?_))
    refine wpAny_bind (wpAny_holding (draw_list hlt items.size 0 _ _ ⟨_, Heap.get?_push_size _ rfl, rfl, rfl⟩ (isList_push ht) (by omega) fun h₁ hit₁ hs₁ => ?_))
    have hall : List.take items.size (List.drop 0 items.toList) = items.toList := by
      rw [List.drop_zero]; exact List.take_of_length_le (by simp)
    rw [hall]
    rw [if_neg (by simp)]
    have ht₁ : h₁.IsList t items := isList_ext (isList_push ht) hs₁.extBut hlt
    refine wpAny_bind (wpAny_holding (wpAny_pyNext_list_end hh hit₁ ht₁ (by simp) fun h₂ he₂ => ?_))
    simp only [Option.isSome_none, Bool.false_eq_true, if_false]
    refine wpAny_pure (hQ h₂ fun b o hb e => he₂ b o hb (hs₁.extBut b o hb (Heap.get?_push_of_some _ e)))
theorem assign_Tuple_list {env : Env} {elts : List Expr} {x1} {pos : Pos} {t : Addr} {items : Array Value} {Q : Unit → Shared → Prop} (hh : A.handled = none) (ht : s.heap.IsList t items)
    (hn : (assignEach elts env).length = items.size) (hstar : (assignEach elts env).findIdx? (·.1) = none)
    (h : ∀ h', Heap.ExtBut s.heap.objs.size s.heap h' → wpAny (model prog w) A (assignInOrder ((assignEach elts env).map (·.2)) items.toList) Q E { s with heap := h' }) :
    wpAny (model prog w) A (assign (.Tuple elts x1 pos) env (.ref t)) Q E s := by
  rw [PyProof.Rows.assign_Tuple]
  refine wpAny_bind (wpAny_standAt ?_)
  unfold unpack
  rw [hn, hstar]
  exact wpAny_bind (wpAny_holding (unpackItems_list hh ht h))
end
/-- (a, b, ..) = a list of that length -/
def gTupL (K : PySem.W.Frag) (n : Nat) (t : TGs) : TG := fun v σ H Q => ∃ a xs, v = .ref a ∧ SqL K H a xs ∧ xs.length = n ∧ t xs σ H Q
theorem pg_tupL {X : Cx} {es : List Expr} {k : Nat} {pos : Pos} {t : TGs} {n : Nat} (hc : X.calm = true) (h : PGs X es t)
    (hn : (assignEach es X.env).length = n := by rfl) (hst : (assignEach es X.env).findIdx? (·.1) = none := by rfl) : PG X (.Tuple es k pos) (gTupL X.K n t) := by
  refine ⟨fun pins s σ H v u Q I r hw => ?_⟩
  obtain ⟨a, xs, e1, hq, hl, hw⟩ := hw
  subst e1
  cases r
  obtain ⟨its, rv, ⟨o, m, e, hcl, _, d⟩, hz⟩ := I.list hq
  refine assign_Tuple_list (I.ok.hd hc) ⟨o, e, hcl, m, d⟩ (by simp [hn, ← hl, rv.length]) hst fun h' hx => ?_
  have I1 : Inv X pins σ H { s with heap := h' } := I.kept (t' := s.toks) fun b o e => hx b o (Nat.ne_of_lt (Heap.lt_size e)) e
  exact h.run pins _ σ H xs _ Q I1 (by simpa using rv) hw
end Lm

namespace Lm
open PySem PySem.W PySem.Calls PyProof.Rows
open AutoSeq1 (wpAny_loadPart')
section
variable {prog : Program} {w : World} {A : Around} {E : Value → Shared → Prop} {s : Shared} {K : Frag} {x C L f dx : Addr} {h₀ : Heap} {m : Str → Option Value} {od : Option Obj}
theorem int_eq_ins (n : Int) (t : Tok) (x : Addr) {C dx : Addr} : GivesAt (fun s => s.heap.get? x = some (instObj C dx)) (Builtin.«int.__eq__» ⟨[.int n t, .ref x], []⟩) (.val .notImplemented) := by
  intro prog w A R s hx h
  obtain ⟨hp, g, d, tk, os⟩ := s
  have hx : hp.get? x = some (instObj C dx) := hx
  wp_walk using wpAny_load hx, wpAny_loadPart' hx
  exact h
theorem str_eq_ins (n : Str) (t : Tok) (x : Addr) {C dx : Addr} : GivesAt (fun s => s.heap.get? x = some (instObj C dx)) (Builtin.«str.__eq__» ⟨[.str n t, .ref x], []⟩) (.val .notImplemented) := by
  intro prog w A R s hx h
  obtain ⟨hp, g, d, tk, os⟩ := s
  have hx : hp.get? x = some (instObj C dx) := hx
  wp_walk using wpAny_load hx, wpAny_loadPart' hx
  exact h
theorem list_eq_ins (l x : Addr) {items : Array Value} {n : Nat} {dd : Option Addr} {sl : Array (Option Value)} : GivesAt (fun s => s.heap.get? l = some { cls := .type "list", dict := dd, data := .seq items n, slots := sl } ∧ ∀ prog w, Looks (model prog w) s.heap (isInstance (.ref x) (.type "list")) false)
    (Builtin.«list.__eq__» ⟨[.ref l, .ref x], []⟩) (.val .notImplemented) := by
  intro prog w A R s ⟨hl, hi⟩ h
  obtain ⟨hp, g, d, tk, os⟩ := s
  have hi := hi prog w
  wp_walk using hi.here, wpAny_loadPart' hl
  exact h
theorem tuple_eq_ins (l x : Addr) {items : Array Value} {n : Nat} {dd : Option Addr} {sl : Array (Option Value)} : GivesAt (fun s => s.heap.get? l = some { cls := .type "tuple", dict := dd, data := .seq items n, slots := sl } ∧ ∀ prog w, Looks (model prog w) s.heap (isInstance (.ref x) (.type "tuple")) false)
    (Builtin.«tuple.__eq__» ⟨[.ref l, .ref x], []⟩) (.val .notImplemented) := by
  intro prog w A R s ⟨hl, hi⟩ h
  obtain ⟨hp, g, d, tk, os⟩ := s
  have hi := hi prog w
  wp_walk using hi.here, wpAny_loadPart' hl
  exact h
/-- v == x, v of a built-in type whose own == declines, x an instance with an own == -/
theorem eq_refl_K {Q : Value → Shared → Prop} {v : Value} {T id : String} {ox : Obj} (hu : A.units < cLine) (F : Fr h₀ L s.heap m) (X₀ : K.In h₀) (I : InstAt s.heap x ox C od) (hT : s.TypeIs v T) (slot : Slot T (cmpInfo .Eq).2.1 id)
    (hsub : subIn K (.ref C) (.type T) = some false) (hs : findIn K (.ref C) "__eq__" = some (some (.ref f))) (hf : isFn K (.ref f) = true)
    (hc : ∀ Q' : Value → Shared → Prop, Q' .notImplemented s → wpAny (model prog w) A (call (.builtin id) [v, .ref x]) Q' E s)
    (h : wpAny (model prog w) A (call (.ref f) [.ref x, v]) (PySem.W.CmpBack Q) E s) : wpAny (model prog w) A (richCompare .Eq v (.ref x)) Q E s := by
  have X := X₀.keeps F.keep
  have two : wpAny (model prog w) A (tryCompare (.ref x) "__eq__" v) (fun r s' => ∃ u, r = some u ∧ Q u s') E s := by
    unfold tryCompare
    refine wpAny_bind (ifBound_K X I hs hf (wpAny_mono h (fun v s' hv => ?_) fun _ _ e => e))
    cases v <;> first | exact hv.elim | exact wpAny_pure ⟨_, rfl, hv⟩
  have hne : (Value.type T != Value.ref C) = true := by
    rw [bne_iff_ne]; intro z; cases z
  simp only [richCompare, cmpInfo, hT.oneThing_none] at slot ⊢
  refine wpAny_holding ?_
  refine wpAny_bind (wpAny_cRoomFor hu ?_)
  refine wpAny_bind (wpAny_typeOf hT (wpAny_bind (I.type.here ?_)))
  simp only [hne, if_true]
  refine wpAny_bind ((looks_subIn X hsub).here ?_)
  simp only [Bool.false_eq_true, if_false, Bool.not_false, if_true]
  refine wpAny_bind (m := tryCompare v _ (.ref x)) (wpAny_tryCompare_declines hT slot (hc _ ⟨rfl, ?_⟩))
  refine wpAny_bind (wpAny_mono two (fun r s' z => ?_) fun _ _ e => e)
  obtain ⟨u, rfl, hq⟩ := z
  exact wpAny_pure hq
end
end Lm

namespace Lm
open PySem L2 RZ
theorem walk_zipT {K : PySem.W.Frag} {a b : Addr} {xs ys : List V} {n : Nat} (hn : n = min xs.length ys.length) : Walk (ItzT K a b) n (fun H => SqT K H a xs ∧ SqT K H b ys) (YPair (fun i => xs[i]?) (fun i => ys[i]?)) := by
  subst hn
  refine ⟨fun i _ hi q => ?_, fun _ q => ⟨xs, ys, q.1, q.2, by omega⟩, fun i H v H' _ q y => ?_⟩
  · have h1 : i < xs.length := by omega
    have h2 : i < ys.length := by omega
    exact ⟨xs, ys, xs[i], ys[i], q.1, q.2, by simp [h1], by simp [h2]⟩
  · obtain ⟨T, x, z, h1, h2, h3, h4, h5⟩ := y
    exact ⟨T, x, z, h1, h2, h3, h4 xs q.1, h5 ys q.2⟩
/-- built-in values whose own == declines an instance -/
inductive TyE (H : Hp) : V → String → Prop where
  | non : TyE H .non "NoneType"
  | int (i : Int) : TyE H (.int i) "int"
  | str (x : Str) : TyE H (.str x) "str"
  | lst {a : Addr} {xs : List V} (e : H a = some (.lst xs)) : TyE H (.ref a) "list"
  | tup {a : Addr} {xs : List V} (e : H a = some (.tup xs)) : TyE H (.ref a) "tuple"
section
variable {X : Cx} {CX : CXT} {k : Nat} {f C : Addr} {fd : FuncData} {ps : List Str} {sp : Sp} {E : XK}
theorem op_or {op : Value → Value → Sem Value} {r r' : R2} (h : OpR X op r) (h' : OpR X op r') : OpR X op (fun x y H Q => r x y H Q ∨ r' x y H Q) := by
  intro pins s σ H x y v u Q I rx ry q
  rcases q with q | q
  · exact h pins s σ H x y v u Q I rx ry q
  · exact h' pins s σ H x y v u Q I rx ry q
/-- x == y, x an instance with an own ==, y anything -/
def rEqL (K : PySem.W.Frag) (C : Addr) (sp : Sp) (E : XK) : R2 := fun x y H Q => ∃ a dx fs t, x = .ref a ∧ H a = some (.ins C dx fs) ∧ TyX K H y t ∧ PySem.W.notFirst K C t = true ∧ sp [x, y] H Q E
theorem op_eqL (F : FnOk X.prog X.w X.K X.mg X.base CX k f fd ps sp) (hs : PySem.W.findIn X.K (.ref C) "__eq__" = some (some (.ref f))) (hf : PySem.W.isFn X.K (.ref f) = true) (hb : Binds X.K fd ps []) (hr : Room k X.A) (hx : Passes CX X E) :
    OpR X (compareOp .Eq) (rEqL X.K C sp E) := by
  intro pins s σ H x y v u Q I rx ry h
  obtain ⟨a, dx, fs, t, rfl, ha, ty, hn, q⟩ := h
  cases (show v = Value.ref a from rx)
  obtain ⟨mA, J, _⟩ := ins_get I.hok ha
  obtain ⟨od, J, _⟩ := J.look
  obtain ⟨P, Z, p, _⟩ := kit_of I ry ty
  obtain ⟨m, hF⟩ := I.fr
  show wpAny _ _ (richCompare .Eq _ _) _ _ _
  refine PySem.W.cmp_K (op := .Eq) (tb := t) hr.units0 hF I.ok.mod.kin J (Z.ty _ _ I.kIn p) hn hs hf (wpAny_mono (run_in (us := [.ref a, u]) (vs := [.ref a, y]) F hr I.env0 hb hx I (.cons rfl (.cons ry .nil)) q) (fun w s' z => ?_) fun _ _ x => x)
  obtain ⟨z', H', I', rz, qz⟩ := z
  exact cmpBack rz ⟨z', H', I', rz, qz⟩
/-- x != y, x an instance with an own == alone, y anything -/
def rNeL (K : PySem.W.Frag) (C : Addr) (sp : Sp) (E : XK) : R2 := fun x y H Q => ∃ a dx fs t, x = .ref a ∧ H a = some (.ins C dx fs) ∧ TyX K H y t ∧ PySem.W.notFirst K C t = true ∧ sp [x, y] H (fun z H' => ∃ k : Bool, z = .bl k ∧ Q (.bl (!k)) H') E
theorem op_neL (F : FnOk X.prog X.w X.K X.mg X.base CX k f fd ps sp) (hs : PySem.W.findIn X.K (.ref C) "__eq__" = some (some (.ref f))) (hf : PySem.W.isFn X.K (.ref f) = true) (hb : Binds X.K fd ps [])
    (hn : PySem.W.findIn X.K (.ref C) "__ne__" = some (some (.builtin "object.__ne__"))) (ho : PySem.W.subIn X.K (.ref C) (.type "object") = some true) (hr : Room (k + 1) X.A) (hx : Passes CX X E) :
    OpR X (compareOp .NotEq) (rNeL X.K C sp E) := by
  intro pins s σ H x y v u Q I rx ry h
  obtain ⟨a, dx, fs, t, rfl, ha, ty, hnf, q⟩ := h
  cases (show v = Value.ref a from rx)
  obtain ⟨mA, J, _⟩ := ins_get I.hok ha
  obtain ⟨od, J, _⟩ := J.look
  obtain ⟨P, Z, p, _⟩ := kit_of I ry ty
  obtain ⟨m, hF⟩ := I.fr
  show wpAny _ _ (richCompare .NotEq _ _) _ _ _
  refine ne_own (tb := t) (by have := hr.un; omega) hF I.ok.mod.kin J (Z.ty _ _ I.kIn p) hnf hn ho hs hf
    (wpAny_mono (run_in (us := [.ref a, u]) (vs := [.ref a, y]) F hr.in1 I.env0.in1 hb hx I (.cons rfl (.cons ry .nil)) q) (fun w s' z => ?_) fun _ _ x => x)
  obtain ⟨z', H', I', rz, b, ez, qz⟩ := z
  subst ez
  cases (show w = Value.bool b from rz)
  exact ⟨b, rfl, .bl _, H', I', rfl, qz⟩
/-- x == y, x of a built-in type, y an instance with an own == -/
def rEqR (K : PySem.W.Frag) (C : Addr) (sp : Sp) (E : XK) : R2 := fun x y H Q => ∃ b dy gs T, y = .ref b ∧ H b = some (.ins C dy gs) ∧ TyE H x T ∧ PySem.W.subIn K (.ref C) (.type T) = some false ∧ sp [y, x] H Q E
theorem op_eqR (F : FnOk X.prog X.w X.K X.mg X.base CX k f fd ps sp) (hs : PySem.W.findIn X.K (.ref C) "__eq__" = some (some (.ref f))) (hf : PySem.W.isFn X.K (.ref f) = true) (hb : Binds X.K fd ps []) (hr : Room k X.A) (hx : Passes CX X E) :
    OpR X (compareOp .Eq) (rEqR X.K C sp E) := by
  intro pins s σ H x y v u Q I rx ry h
  obtain ⟨b, dy, gs, T, rfl, hb', ty, hsub, q⟩ := h
  cases (show u = Value.ref b from ry)
  obtain ⟨mA, J, _⟩ := ins_get I.hok hb'
  obtain ⟨od, J, _⟩ := J.look
  obtain ⟨m, hF⟩ := I.fr
  show wpAny _ _ (richCompare .Eq _ _) _ _ _
  have run : wpAny (model X.prog X.w) X.A (call (.ref f) [.ref b, v]) (PySem.W.CmpBack (EP X pins σ Q)) X.xe s := by
    refine wpAny_mono (run_in (us := [.ref b, v]) (vs := [.ref b, x]) F hr I.env0 hb hx I (.cons rfl (.cons rx .nil)) q) (fun w s' z => ?_) fun _ _ x => x
    obtain ⟨z', H', I', rz, qz⟩ := z
    exact cmpBack rz ⟨z', H', I', rz, qz⟩
  have hin : ∀ (T : String), PySem.W.subIn X.K (.ref C) (.type T) = some false → ∀ prog w, PySem.W.Looks (model prog w) s.heap (isInstance (.ref b) (.type T)) false := fun T h prog w => J.type.andThen (PySem.W.looks_subIn I.kIn h)
  cases ty with
  | non =>
    cases (show v = Value.none from rx)
    exact eq_refl_K hr.units0 hF I.ok.mod.kin J rfl PySem.F.slot_NoneType_eq hsub hs hf (fun Q' hq => call_gives PySem.F.slot_NoneType_eq rfl PySem.F.entry_NoneType_eq (PySem.F.args_NoneType_eq_2 _ _) (SeqAt.NoneType___eq___none_ref_0 b) hq) run
  | int i =>
    obtain ⟨t, e⟩ := (show ∃ t, v = Value.int i t from rx)
    subst e
    exact eq_refl_K hr.units0 hF I.ok.mod.kin J (typeIs_int _ i t) PySem.F.slot_int_eq hsub hs hf (fun Q' hq => PySem.call_givesAt PySem.F.slot_int_eq (typeIs_int _ i t) PySem.F.entry_int_eq (PySem.F.args_int_eq_2 _ _) (int_eq_ins i t b) J.at_ hq) run
  | str i =>
    obtain ⟨t, e⟩ := (show ∃ t, v = Value.str i t from rx)
    subst e
    exact eq_refl_K hr.units0 hF I.ok.mod.kin J (typeIs_str _ i t) PySem.F.slot_str_eq hsub hs hf (fun Q' hq => PySem.call_givesAt PySem.F.slot_str_eq (typeIs_str _ i t) PySem.F.entry_str_eq (PySem.F.args_str_eq_2 _ _) (str_eq_ins i t b) J.at_ hq) run
  | @lst a xs e =>
    cases (show v = Value.ref a from rx)
    obtain ⟨_, _, n, _, h1⟩ := (show ObjOk X.prog X.w H s.heap a (.lst xs) from I.hok a _ e)
    exact eq_refl_K hr.units0 hF I.ok.mod.kin J ⟨_, h1, rfl⟩ PySem.F.slot_list_eq hsub hs hf (fun Q' hq => PySem.call_givesAt PySem.F.slot_list_eq ⟨_, h1, rfl⟩ PySem.F.entry_list_eq (PySem.F.args_list_eq_2 _ _) (list_eq_ins a b) ⟨h1, hin _ hsub⟩ hq) run
  | @tup a xs e =>
    cases (show v = Value.ref a from rx)
    obtain ⟨_, _, _, ⟨oc, od', dt, sl⟩, h1, h2, n, h3⟩ := (show ObjOk X.prog X.w H s.heap a (.tup xs) from I.hok a _ e)
    simp only at h2 h3
    subst h2 h3
    exact eq_refl_K hr.units0 hF I.ok.mod.kin J ⟨_, h1, rfl⟩ PySem.F.slot_tuple_eq hsub hs hf (fun Q' hq => PySem.call_givesAt PySem.F.slot_tuple_eq ⟨_, h1, rfl⟩ PySem.F.entry_tuple_eq (PySem.F.args_tuple_eq_2 _ _) (tuple_eq_ins a b) ⟨h1, hin _ hsub⟩ hq) run
theorem MetOk.eqL (D : MetOk X.prog X.w X.K X.mg X.base k C "__eq__" f fd ps sp) (hr : Room k X.A) : OpR X (compareOp .Eq) (rEqL X.K C sp E0) := op_eqL D.ok D.mt.at_ D.mt.fn D.bd hr pass0
theorem MetOk.eqR (D : MetOk X.prog X.w X.K X.mg X.base k C "__eq__" f fd ps sp) (hr : Room k X.A) : OpR X (compareOp .Eq) (rEqR X.K C sp E0) := op_eqR D.ok D.mt.at_ D.mt.fn D.bd hr pass0
theorem MetOk.neL (D : MetOk X.prog X.w X.K X.mg X.base k C "__eq__" f fd ps sp) (hn : PySem.W.findIn X.K (.ref C) "__ne__" = some (some (.builtin "object.__ne__"))) (ho : PySem.W.subIn X.K (.ref C) (.type "object") = some true) (hr : Room (k + 1) X.A) :
    OpR X (compareOp .NotEq) (rNeL X.K C sp E0) := op_neL D.ok D.mt.at_ D.mt.fn D.bd hn ho hr pass0
end
def rAddS : R2 := fun x y H Q => ∃ i j, x = .str i ∧ y = .str j ∧ i.length + j.length ≤ sizeLine ∧ Q (.str (i ++ j)) H
/-! ### C(k2 = b, k1 = a) -/
def swapR {α : Type} (us ws : List α) : List α := us ++ ws.reverse
theorem vals_snoc : ∀ {vs : List V} {us : List Value} {v : V} {u : Value}, Vals vs us → RelV v u → Vals (vs ++ [v]) (us ++ [u])
  | _, _, _, _, .nil, r => .cons r .nil
  | _, _, _, _, .cons a b, r => .cons a (vals_snoc b r)
theorem vals_rev : ∀ {vs : List V} {us : List Value}, Vals vs us → Vals vs.reverse us.reverse
  | _, _, .nil => .nil
  | _, _, .cons a b => by rw [List.reverse_cons, List.reverse_cons]; exact vals_snoc (vals_rev b) a
theorem vals_app : ∀ {vs : List V} {us : List Value} {ws : List V} {zs : List Value}, Vals vs us → Vals ws zs → Vals (vs ++ ws) (us ++ zs)
  | _, _, _, _, .nil, r => r
  | _, _, _, _, .cons a b, r => .cons a (vals_app b r)
theorem Fun.swap {K : PySem.W.Frag} {x qual : Str} {st : Stmt} {f : Addr} {fd : FuncData} {ps : List Str} {k1 k2 : Str} (F : Fun K x qual st f fd)
    (h : ∀ (kV doc pm : Value) (an : Option Addr) (cdv ct : Value) (a b c : Value), bindArgs (PySem.W.fnOf x qual (defArgs st) (defBody st) (defScope st) .none kV doc pm an cdv ct) ⟨[a], [(k2, c), (k1, b)]⟩ = pure (ps.zip [a, b, c])) : KBn K fd ps 1 [k2, k1] swapR swapR := by
  obtain ⟨oc, od, kV, doc, pm, an, cdv, ct, osl, rfl, lk, hcd⟩ := F.ex
  refine ⟨fun s us ws X l1 l2 => ?_, fun r1 r2 => vals_app r1 (vals_rev r2)⟩
  match us, ws, l1, l2 with
  | [a], [c, b], _, _ => exact .of_eq (h kV doc pm an cdv ct a b c)
section
variable {X : Cx} {k : Nat} {f C : Addr} {fd : FuncData} {ps ks : List Str} {sp : Sp} {x : Str} {p pos : Pos} {kws : List Keyword} {tk : TA} {g : List Value → List Value → List Value} {gV : List V → List V → List V}
theorem pe_mkK (D : ClsOk X.prog X.w X.K X.mg X.base k x C f fd ps sp) (hb : KBn X.K fd ps 1 ks g gV) (hr : Room (k + 1) X.A) (hkw : PK X kws tk) (hg : Gl X x := by rfl) (hdb : (x == ("__debug__" : Str)) = false := by decide)
    (hall : (backToKw pos (keywordEach kws X.env)).all (·.1.isSome) = true := by rfl) (hks : (backToKw pos (keywordEach kws X.env)).filterMap (·.1) = ks := by rfl)
    (hpl : ((backTo pos (starEach [] X.env)).any (·.1) || (backToKw pos (keywordEach kws X.env)).any (·.1.isNone)) = false := by rfl) :
    PE X (.Call (.Name x p) [] kws pos) (tMakeK C 0 ks.length sp gV E0 tNil tk) := pe_makeK0 D.mkr D.ok hr hg D.mg hb pass0 hkw hall hks hdb hpl
end
end Lm

namespace Lm
open PySem L2
section
variable {X : Cx} {C : Addr} {bmB : List Value} {B newId initId : String}
/-- X(), X an own exception class without own __init__ -/
theorem pmk_own0 {x : Str} {p pos : Pos} (F : ExcBaseFacts B newId initId bmB) (q : PySem.W.excIn X.K C bmB newId = true) (gC : X.mg x = some (.ref C)) (kC : PySem.W.keepIn X.K (.ref C) = true) (r : Raises X (.ref C)) (hg : Gl X x := by rfl) (hdb : (x == ("__debug__" : Str)) = false := by decide) :
    PMk X (.Call (.Name x p) [] [] pos) (fun _ H Q => Q (.ref C) none H) := by
  intro pins s σ H Q I h
  refine wpAny_Call_Name_kw (ld_glob I hg gC ?_ hdb)
  refine PySem.W.callWith_K0 (first := []) I.kIn kC ?_
  show wpAny _ _ (call (.ref C) []) _ _ _
  obtain ⟨bm, N, nm, qn, bs, hdct, sn, sub, ab, col, dd, k0, k1, k2, k3, k5, mN, hC, hN, hni, T⟩ := exc_obj I.kIn q
  refine wpAny_call_exc_subT F T hC hN hni (fun h' e hm => ?_) (Nat.zero_le _)
  exact mk_of I hm r h (I.hok.gone hm.new)
end
/-- what the text says of an own error -/
structure ErrTxt (K : PySem.W.Frag) (mg : Str → Option Value) (x : Str) (C : Addr) : Prop where
  g : mg x = some (.ref C)
  xi : PySem.W.excIn K C [.type "ValueError", .type "Exception", .type "BaseException", .type "object"] "ValueError.__new__" = true
  kp : PySem.W.keepIn K (.ref C) = true
  b : PySem.W.subIn K (.ref C) (.type "BaseException") = some true
  t : PySem.W.typeIn K (.ref C) = some (.type "type")
  ic : PySem.W.isClsIn K C = true
  self : PySem.W.subIn K (.ref C) (.ref C) = some true
/-- an error of the class at S is what «except S» names -/
theorem exm_self {K : PySem.W.Frag} {S : Addr} (h1 : PySem.W.subIn K (.ref S) (.type "BaseException") = some true) (h2 : PySem.W.isClsIn K S = true) (h3 : PySem.W.typeIn K (.ref S) = some (.type "type")) (h4 : PySem.W.subIn K (.ref S) (.ref S) = some true) :
    PySem.W.exmOne K (.ref S) (.ref S) = some true := by
  have e1 : (PySem.W.subIn K (.ref S) (.type "BaseException") == some true) = true := by rw [h1] <;> rfl
  have e2 : ((PySem.W.clsIn K S).isSome && PySem.W.typeIn K (.ref S) == some (.type "type")) = true := by
    have h2' : (PySem.W.clsIn K S).isSome = true := h2
    rw [h2', h3] <;> rfl
  show (if (PySem.W.subIn K (.ref S) (.type "BaseException") == some true) = true then (if ((PySem.W.clsIn K S).isSome && PySem.W.typeIn K (.ref S) == some (.type "type")) = true then PySem.W.subIn K (.ref S) (.ref S) else none) else none) = some true
  rw [if_pos e1, if_pos e2]
  exact h4
theorem ErrTxt.exm {K : PySem.W.Frag} {mg : Str → Option Value} {x : Str} {C : Addr} (T : ErrTxt K mg x C) : PySem.W.exmOne K (.ref C) (.ref C) = some true := exm_self T.b T.ic T.t T.self
theorem ErrTxt.call {X : Cx} {x : Str} {C : Addr} {p pos : Pos} (T : ErrTxt X.K X.mg x C) (hg : Gl X x := by rfl) (hdb : (x == ("__debug__" : Str)) = false := by decide) : PMk X (.Call (.Name x p) [] [] pos) (fun _ H Q => Q (.ref C) none H) :=
  pmk_own0 PySem.F.excBase_ValueError T.xi T.g T.kp (raises_own T.b T.t) hg hdb
/-! ### defs and methods that raise -/
structure DefOkX (P : Program) (w : World) (K : PySem.W.Frag) (mg : Str → Option Value) (base : Heap) (k : Nat) (x : Str) (f : Addr) (fd : FuncData) (ps : List Str) (sp : Sp) : Prop where
  ok : FnOk P w K mg base (L2.CX P w) k f fd ps sp
  kp : PySem.W.keepIn K (.ref f) = true
  bd : Binds K fd ps []
  mg : mg x = some (.ref f)
structure MetOkX (P : Program) (w : World) (K : PySem.W.Frag) (mg : Str → Option Value) (base : Heap) (k : Nat) (C : Addr) (m : Str) (f : Addr) (fd : FuncData) (ps : List Str) (sp : Sp) : Prop where
  ok : FnOk P w K mg base (L2.CX P w) k f fd ps sp
  bd : Binds K fd ps []
  mt : Meth K C m f
  cl : Cls K C
/-- o.m(e, ..) that may raise, at the slots -/
def tMethE (C : Addr) (m : Str) (sp : Sp) (E : St → XK) (ta : TE) (t : TA) : TE := fun σ H Q => ta σ H fun x H1 => ∃ a dx fs, x = .ref a ∧ H1 a = some (.ins C dx fs) ∧ fs.lookup m = none ∧ t σ H1 fun vs H2 => sp (.ref a :: vs) H2 Q (E σ)
/-- o.m(k = v, ..) -/
def tMethK (C : Addr) (m : Str) (n : Nat) (sp : Sp) (gV : List V → List V → List V) (E : XK) (ta : TE) (tk : TA) : TE := fun σ H Q => ta σ H fun x H1 => ∃ a dx fs, x = .ref a ∧ H1 a = some (.ins C dx fs) ∧ fs.lookup m = none ∧ tk σ H1 fun zs H2 => zs.length = n ∧ sp (gV [.ref a] zs) H2 Q E
section
variable {X : Cx} {k : Nat} {f C : Addr} {fd : FuncData} {ps ks : List Str} {sp : Sp} {E : XK} {x m : Str} {p pos apos : Pos} {e o : Expr} {es : List Expr} {kws : List Keyword} {ta : TE} {t tk : TA} {g : List Value → List Value → List Value} {gV : List V → List V → List V}
theorem pe_dX (D : DefOkX X.prog X.w X.K X.mg X.base k x f fd ps sp) (hr : Room k X.A) (hx : Passes (L2.CX X.prog X.w) X E) (ha : PA X (e :: es) t) (hg : Gl X x := by rfl) (hdb : (x == ("__debug__" : Str)) = false := by decide)
    (he : starEach (e :: es) X.env = (false, eval e X.env) :: starEach es X.env := by rfl) (hpl : (backTo pos (starEach es X.env)).any (·.1) = false := by rfl) :
    PE X (.Call (.Name x p) (e :: es) [] pos) (tCall sp [] E t) := pe_call D.ok hr hg D.mg D.kp D.bd .nil hx ha hdb he hpl
theorem pe_mX {pl : Sem Bool} {E : St → XK} (D : MetOkX X.prog X.w X.K X.mg X.base k C m f fd ps sp) (hr : Room k X.A) (hx : ∀ σ, PassesAt (L2.CX X.prog X.w) X σ (E σ)) (he : PE X o ta) (ha : PA X (e :: es) t)
    (hst : starEach (e :: es) X.env = (false, eval e X.env) :: starEach es X.env := by rfl) (hpl : (backTo pos (starEach es X.env)).any (·.1) = false := by rfl)
    (ht : eval (.Call (.Attribute o m apos) (e :: es) [] pos) X.env = (do
      let ov ← eval o X.env
      standAt apos.atName
      let (f, first) ← holding [ov] (getMethod ov m pl)
      callWith pos f first (backTo pos (starEach (e :: es) X.env)) (backToKw pos (keywordEach [] X.env))) := by rfl) :
    PE X (.Call (.Attribute o m apos) (e :: es) [] pos) (tMethE C m sp E ta t) := by
  refine ⟨fun pins s σ H Q I h => ?_⟩
  refine PySem.W.methodCall_KW (pl := pl) (thn (he.run pins s σ H _ I h) fun u s1 ⟨x, H1, I1, rx, a, dx, fs, ex, ea, l, q⟩ => ?_) ht
  subst ex
  obtain rfl : u = Value.ref a := rx
  refine getmeth_ok I1 ea D.cl D.mt l ?_
  refine PySem.W.callWith_K (first := [.ref a]) (h₀ := X.base) I.ok.mod.kin D.mt.kp (thn (ha.run pos pins s1 σ H1 _ I1 q) fun us s2 ⟨vs, H2, I2, r, q2⟩ => ⟨I2.kIn, ?_⟩) hst hpl
  exact run_fnS (us := .ref a :: us) (vs := .ref a :: vs) D.ok hr D.bd (hx σ) I2 (.cons rfl r) q2
theorem pe_mk_ {pl : Sem Bool} (D : MetOk X.prog X.w X.K X.mg X.base k C m f fd ps sp) (hb : KBn X.K fd ps 1 ks g gV) (hr : Room k X.A) (he : PE X o ta) (hkw : PK X kws tk)
    (hall : (backToKw pos (keywordEach kws X.env)).all (·.1.isSome) = true := by rfl) (hks : (backToKw pos (keywordEach kws X.env)).filterMap (·.1) = ks := by rfl)
    (hpl : ((backTo pos (starEach [] X.env)).any (·.1) || (backToKw pos (keywordEach kws X.env)).any (·.1.isNone)) = false := by rfl)
    (ht : eval (.Call (.Attribute o m apos) [] kws pos) X.env = (do
      let ov ← eval o X.env
      standAt apos.atName
      let (f, first) ← holding [ov] (getMethod ov m pl)
      callWith pos f first (backTo pos (starEach [] X.env)) (backToKw pos (keywordEach kws X.env))) := by rfl) :
    PE X (.Call (.Attribute o m apos) [] kws pos) (tMethK C m ks.length sp gV E0 ta tk) := by
  refine ⟨fun pins s σ H Q I h => ?_⟩
  refine PySem.W.methodCall_KW (pl := pl) (thn (he.run pins s σ H _ I h) fun u s1 ⟨x, H1, I1, rx, a, dx, fs, ex, ea, l, q⟩ => ?_) ht
  subst ex
  obtain rfl : u = Value.ref a := rx
  refine getmeth_ok I1 ea D.cl D.mt l ?_
  refine PySem.W.callWith_KW0 (first := [.ref a]) (h₀ := X.base) I.ok.mod.kin D.mt.kp hall ?_ hpl
  refine thn (hkw.run pos pins s1 σ H1 _ I1 q) fun ws s2 ⟨zs, H2, I2, rz, l2, q2⟩ => ⟨I2.kIn, ?_⟩
  rw [hks]
  have r2 := hb.rel (vs := [V.ref a]) (us := [Value.ref a]) (.cons rfl .nil) rz
  show wpAny _ _ (call (.ref f) [.ref a] (ks.zip ws)) _ _ _
  refine wpAny_call (codeAny_mono (D.ok.run X.A X.stack s2 H2 ⟨[.ref a], ks.zip ws⟩ (g [.ref a] ws) (gV [.ref a] zs) Q E0 hr I2.env0 (hb.to s2 [.ref a] ws I2.kIn rfl (rz.length.symm.trans l2)) r2 q2) fun r s' hq => ?_)
  cases r with
  | error e => exact pass0 pins σ H2 s2 e s' I2 hq
  | ok fl =>
    cases fl with
    | ret u => exact I2.after hq
    | next => exact False.elim hq
    | brk => exact False.elim hq
    | cont => exact False.elim hq
end
/-- one keyword alone -/
def oneR {α : Type} (us ws : List α) : List α := us ++ ws
theorem Fun.kone {K : PySem.W.Frag} {x qual : Str} {st : Stmt} {f : Addr} {fd : FuncData} {ps : List Str} {k1 : Str} (F : Fun K x qual st f fd)
    (h : ∀ (kV doc pm : Value) (an : Option Addr) (cdv ct : Value) (a b : Value), bindArgs (PySem.W.fnOf x qual (defArgs st) (defBody st) (defScope st) .none kV doc pm an cdv ct) ⟨[a], [(k1, b)]⟩ = pure (ps.zip [a, b])) : KBn K fd ps 1 [k1] oneR oneR := by
  obtain ⟨oc, od, kV, doc, pm, an, cdv, ct, osl, rfl, lk, hcd⟩ := F.ex
  refine ⟨fun s us ws X l1 l2 => ?_, fun r1 r2 => vals_app r1 r2⟩
  match us, ws, l1, l2 with
  | [a], [b], _, _ => exact .of_eq (h kV doc pm an cdv ct a b)
end Lm

namespace Lm
open PySem L2 PyProof.Rows PySem.Spec
theorem tuple_mul_same (l : Addr) (items : Array Value) (n : Nat) (dd : Option Addr) (sl : Array (Option Value)) (x : Int) (u : Tok) (c0 : (decide (x < -(2 ^ 63)) || decide (x ≥ 2 ^ 63)) = false) (c1 : (items.isEmpty || x == 1) = true) :
    Meets (Builtin.«tuple.__mul__» ⟨[.ref l, .int x u], []⟩) (fun _ R s => s.heap.get? l = some { cls := .type "tuple", dict := dd, data := .seq items n, slots := sl } ∧ R (.ok (.ret (Value.ref l))) s) :=
  .of_wp fun prog w A R s h => by
    obtain ⟨hp, g, d, tk, os⟩ := s
    obtain ⟨hl, h⟩ := h
    have f1 := AutoSeq1.idx_int
    wp_walk using wpAny_loadPart' hl, wpAny_load hl
    repeat (first
      | (refine wpAny_ite_false (decide_eq_false (by rw [c0]; exact Bool.false_ne_true)) ?_; wp_walk using wpAny_loadPart' hl, wpAny_load hl)
      | (refine wpAny_ite_true (decide_eq_true (by rw [c1])) ?_; wp_walk using wpAny_loadPart' hl, wpAny_load hl))
    all_goals first | exact ⟨_, rfl, h⟩ | exact h | skip
theorem tuple_mul_zero (l : Addr) (items : Array Value) (n : Nat) (dd : Option Addr) (sl : Array (Option Value)) (x : Int) (u : Tok) (c0 : (decide (x < -(2 ^ 63)) || decide (x ≥ 2 ^ 63)) = false) (c1 : (items.isEmpty || x == 1) = false) (c2 : (decide (x ≤ 0) || items.isEmpty) = true) :
    Meets (Builtin.«tuple.__mul__» ⟨[.ref l, .int x u], []⟩) (fun _ R s => s.heap.get? l = some { cls := .type "tuple", dict := dd, data := .seq items n, slots := sl } ∧ 
      R (.ok (.ret (Value.ref s.heap.objs.size))) { s with heap := s.heap.push { cls := Value.type "tuple", data := Data.seq #[] }, toks := s.toks }) :=
  .of_wp fun prog w A R s h => by
    obtain ⟨hp, g, d, tk, os⟩ := s
    obtain ⟨hl, h⟩ := h
    have f1 := AutoSeq1.idx_int
    wp_walk using wpAny_loadPart' hl
    repeat (first
      | (refine wpAny_ite_false (decide_eq_false (by rw [c0]; exact Bool.false_ne_true)) ?_; wp_walk using wpAny_loadPart' hl)
      | (refine wpAny_ite_false (decide_eq_false (by rw [c1]; exact Bool.false_ne_true)) ?_; wp_walk using wpAny_loadPart' hl)
      | (refine wpAny_ite_true (decide_eq_true (by rw [c2])) ?_; wp_walk using wpAny_loadPart' hl))
    all_goals first | exact ⟨_, rfl, h⟩ | exact h | skip
def rRepTA (K : PySem.W.Frag) : R2 := fun x y H Q => ∃ l k xs, x = .ref l ∧ y = .int k ∧ SqT K H l xs ∧ 0 ≤ k ∧ k ≤ 1000 ∧ xs.length ≤ 1000 ∧ ((xs = [] ∨ k = 1) → Q (.ref l) H) ∧ (¬ (xs = [] ∨ k = 1) → ∀ p, H p = none → Q (.ref p) (upd H p (.tup (List.replicate k.toNat xs).flatten)))
section
variable {X : Cx}
theorem op_repTA : OpR X (binaryOp .Mult) (rRepTA X.K) := by
  intro pins s σ H x y v u Q I rx ry h
  obtain ⟨l, k, xs, rfl, rfl, hT, h1, h2, hz, q1, q2⟩ := h
  by_cases hsame : xs = [] ∨ k = 1
  · have q1 := q1 hsame
    cases rx
    obtain ⟨t, rfl⟩ := ry
    obtain ⟨its, r, ⟨⟨cls, dd, data, sl⟩, ho, hc, n, hd⟩, hs⟩ := I.tuple hT
    simp only at hc hd
    subst hc hd
    have hle : its.length = xs.length := r.length.symm
    have c0 : (decide (k < -(2 ^ 63)) || decide (k ≥ 2 ^ 63)) = false := by
      rw [decide_eq_false (by omega), decide_eq_false (by omega)] <;> rfl
    have c1 : (its.toArray.isEmpty || k == 1) = true := by
      rcases hsame with e | e
      · rw [e] at hle
        have : its = [] := List.eq_nil_of_length_eq_zero hle
        rw [this]
        rfl
      · rw [e]
        cases its <;> rfl
    refine wpAny_binaryOp_repeat_ref (T := "tuple") (U := "int") (by decide) ⟨_, ho, rfl⟩ (fun s' => typeIs_int s' k t) noFill_tuple_mul F.fills_int_mul F.slot_int_rmul repeat_tuple F.slot_int_index.lookup
      (call_meets F.slot_int_rmul (typeIs_int s k t) F.entry_int_rmul (F.args_int_rmul_2 _ _) (int_rmul_tuple k t l its.toArray n dd sl)
        ⟨ho, rfl, ⟨_, ho, rfl⟩, call_meets F.slot_tuple_mul ⟨_, ho, rfl⟩ F.entry_tuple_mul (F.args_tuple_mul_2 _ _) (tuple_mul_same l its.toArray n dd sl k t c0 c1) ⟨ho, ?_⟩⟩)
    exact ⟨.ref l, H, I, rfl, q1⟩
  · have q2 := q2 hsame
    have hne : xs ≠ [] := fun e => hsame (.inl e)
    have hk1 : k ≠ 1 := fun e => hsame (.inr e)
    by_cases hk : 2 ≤ k
    · exact op_repT pins s σ H _ _ v u Q I rx ry ⟨l, k, xs, rfl, rfl, hT, hne, hk, h2, hz, q2⟩
    · have hk0 : k = 0 := by omega
      subst hk0
      cases rx
      obtain ⟨t, rfl⟩ := ry
      obtain ⟨its, r, ⟨⟨cls, dd, data, sl⟩, ho, hc, n, hd⟩, hs⟩ := I.tuple hT
      simp only at hc hd
      subst hc hd
      have hle : its.length = xs.length := r.length.symm
      have hn : its ≠ [] := fun e => hne (by
        rw [e] at hle
        exact List.eq_nil_of_length_eq_zero hle.symm)
      have hi : its.toArray.isEmpty = false := by
        cases its with
        | nil => exact absurd rfl hn
        | cons a b => rfl
      refine wpAny_binaryOp_repeat_ref (T := "tuple") (U := "int") (by decide) ⟨_, ho, rfl⟩ (fun s' => typeIs_int s' 0 t) noFill_tuple_mul F.fills_int_mul F.slot_int_rmul repeat_tuple F.slot_int_index.lookup
        (call_meets F.slot_int_rmul (typeIs_int s 0 t) F.entry_int_rmul (F.args_int_rmul_2 _ _) (int_rmul_tuple 0 t l its.toArray n dd sl)
          ⟨ho, rfl, ⟨_, ho, rfl⟩, call_meets F.slot_tuple_mul ⟨_, ho, rfl⟩ F.entry_tuple_mul (F.args_tuple_mul_2 _ _) (tuple_mul_zero l its.toArray n dd sl 0 t (by decide) (by rw [hi]; rfl) (by rw [hi]; rfl)) ⟨ho, ?_⟩⟩)
      refine ⟨.ref s.heap.objs.size, _, I.laid (t' := s.toks) (o := .tup (List.replicate (0 : Int).toNat xs).flatten) (fun b ob q => Heap.get?_push_of_some _ q) (Nat.le_refl _) ?_, rfl, q2 _ (I.hok.fresh (Nat.le_refl _))⟩
      exact ⟨by show 0 ≤ sizeLine; decide, _, .nil, IsTup.new _ _⟩
end
end Lm

namespace Lm
open PySem L2 Evl
/-! ### own errors whose __init__ keeps one thing -/
/-- what the text says of an own error with __init__ -/
structure ErrF (K : PySem.W.Frag) (mg : Str → Option Value) (x : Str) (C fI : Addr) (fn : Str) : Prop where
  g : mg x = some (.ref C)
  T : OexC K C
  X : XfC K C
  ini : PySem.W.findIn K (.ref C) "__init__" = some (some (.ref fI))
  ty : PySem.W.typeIn K (.ref fI) = some (.type "function")
  no : PySem.W.findIn K (.ref C) fn = some none
  ic : PySem.W.isClsIn K C = true
  self : PySem.W.subIn K (.ref C) (.ref C) = some true
theorem ErrF.exm {K : PySem.W.Frag} {mg : Str → Option Value} {x : Str} {C fI : Addr} {fn : Str} (T : ErrF K mg x C fI fn) : PySem.W.exmOne K (.ref C) (.ref C) = some true := exm_self T.T.exC T.ic T.T.tyC T.self
def spErrI (C : Addr) (fn : Str) : Sp := fun vs H Q _ => ∃ (a : Addr) (v : V), vs = [.ref a, v] ∧ H a = some (exo a C none) ∧ ∀ dx, H dx = none → dx ≠ a → Q .non (upd (upd H dx (exd dx [(fn, v)])) a (exo a C (some dx)))
theorem go_mkO {C : Addr} {fn : Str} {te : TE} {σ : L2.St} {H : Hp} {Q : XK} {v : V} (h : Ev te σ H v) (k : ∀ H1 d, Ex H H1 → H1 d = none → Q (.ref C) (some d) (upd H1 d (.xd [(fn, v)]))) : tMkO C (spErrI C fn) [] (tCons te tNil) σ H Q :=
  h H (Ex.refl H) _ fun H1 e1 => ⟨by show 1 ≤ 1000; decide, fun a na => ⟨a, v, rfl, upd_same, fun dx ndx hda => ⟨rfl, dx, [(fn, v)], upd_same, by rw [upd_ne hda]; exact upd_same, by rw [upd_ne hda] at ndx; exact ndx, by
    have hn : H1 dx = none := by rw [upd_ne hda] at ndx; exact ndx
    have e : upd (del (upd (upd (upd H1 a (exo a C none)) dx (exd dx [(fn, v)])) a (exo a C (some dx))) a) dx (.xd [(fn, v)]) = upd H1 dx (.xd [(fn, v)]) := by
      funext b
      by_cases hb : b = dx
      · subst hb
        rw [upd_same, upd_same]
      · rw [upd_ne hb, upd_ne hb]
        by_cases hba : b = a
        · subst hba
          rw [del_same, na]
        · rw [del_ne hba, upd_ne hba, upd_ne hb, upd_ne hba]
    rw [e]
    exact k H1 dx e1 hn⟩⟩⟩
end Lm

namespace Lm
open PySem L2 PyProof.Rows PySem.Spec
section
variable {M : Model} {A : Around} {E : Value → Shared → Prop} {s : Shared} {K : PySem.W.Frag} {pos : Pos} {x C : Addr} {first : List Value} {Q : Value → Shared → Prop}
/-- the instance as it stands at each time -/
def InsK (K : PySem.W.Frag) (x C : Addr) (h : Heap) : Prop := ∃ ox od, K.In h ∧ PySem.W.InstAt h x ox C od ∧ ox.data = .plain
theorem callWith_ins {args : List (Bool × Sem Value)} {keywords : List (Option Str × Sem Value)} (hplain : (args.any (·.1) || keywords.any (·.1.isNone)) = false)
    (h : wpAny M A (evalArgs (.ref x) true args keywords) (fun a s₁ => InsK K x C s₁.heap ∧ wpAny M A (call (.ref x) (first ++ a.pos) a.kw) Q E s₁) E s) : wpAny M A (callWith pos (.ref x) first args keywords) Q E s := by
  unfold callWith
  refine wpAny_bind (wpAny_holding (wpAny_mono h (fun a s₁ h₁ => wpAny_bind (wpAny_standAt ?_)) fun _ _ y => y))
  obtain ⟨⟨ox, od, X, I, hd⟩, hc⟩ := h₁
  have L := PySem.W.kco_keeper (M := M) I hd
  simp only [hplain]
  refine wpAny_bind (L.here ?_)
  exact wpAny_bind (wpAny_mono (wpAny_operateT hc) (fun r s₂ hr => wpAny_bind (wpAny_holding (wpAny_point (wpAny_pure hr)))) fun _ _ y => y)
end
/-- what the text says of own __call__ -/
structure CallM (K : PySem.W.Frag) (C g : Addr) : Prop where
  at_ : PySem.W.findIn K (.ref C) "__call__" = some (some (.ref g))
  isF : PySem.W.isFn K (.ref g) = true
  fn : PySem.W.fnIn K g = true
/-- the i-th slot holds an instance, which is called -/
def tCallO (i : Nat) (C : Addr) (sp : Sp) (E : L2.St → XK) (t : TA) : TE := fun σ H Q => ∃ a, σ[i]? = some (some (.ref a)) ∧ t σ H fun vs H1 => (∃ dx fs, H1 a = some (.ins C dx fs)) ∧ sp (.ref a :: vs) H1 Q (E σ)
def tCallOk (i : Nat) (C : Addr) (n : Nat) (sp : Sp) (gV : List V → List V → List V) (E : XK) (tk : TA) : TE := fun σ H Q => ∃ a, σ[i]? = some (some (.ref a)) ∧ tk σ H fun zs H1 => (∃ dx fs, H1 a = some (.ins C dx fs)) ∧ zs.length = n ∧ sp (gV [.ref a] zs) H1 Q E
section
variable {X : Cx} {CX : CXT} {k i : Nat} {f C : Addr} {fd : FuncData} {ps ks : List Str} {sp : Sp} {x : Str} {p pos : Pos} {e : Expr} {es : List Expr} {kws : List Keyword} {t tk : TA} {g : List Value → List Value → List Value} {gV : List V → List V → List V}
theorem ins_k {pins : List (Addr × Obj)} {σ : L2.St} {H : Hp} {s : Shared} {a dx : Addr} {fs : List (Str × V)} (I : Inv X pins σ H s) (h : H a = some (.ins C dx fs)) : InsK X.K a C s.heap := by
  obtain ⟨mA, O, r, _, _, _⟩ := ins_get I.hok h
  obtain ⟨od, hI, _⟩ := O.look
  exact ⟨_, _, I.kIn, hI, rfl⟩
theorem pe_callO {E : L2.St → XK} (F : FnOk X.prog X.w X.K X.mg X.base CX k f fd ps sp) (hm : CallM X.K C f) (hr : Room k X.A) (hb : Binds X.K fd ps []) (hx : ∀ σ, PassesAt CX X σ (E σ)) (hN : X.N[i]? = some x) (hv : Vis X.env.scope x) (ha : PA X (e :: es) t)
    (hdb : (x == ("__debug__" : Str)) = false := by decide) (hcd : (x == ("__classdict__" : Str)) = false := by decide)
    (he : starEach (e :: es) X.env = (false, eval e X.env) :: starEach es X.env := by rfl) (hpl : (backTo pos (starEach es X.env)).any (·.1) = false := by rfl) : PE X (.Call (.Name x p) (e :: es) [] pos) (tCallO i C sp E t) := by
  refine ⟨fun pins s σ H Q I h => ?_⟩
  obtain ⟨a, hs, ht⟩ := h
  refine wpAny_Call_Name_kw (thn ((pe_var (pos := p) hN hv hdb hcd).run pins s σ H (fun v H1 => v = .ref a ∧ H1 = H) I ⟨.ref a, hs, rfl, rfl⟩) fun u s1 ⟨v, H1, I1, r1, q1⟩ => ?_)
  obtain ⟨rfl, rfl⟩ := q1
  cases r1
  rw [he]
  refine callWith_ins (K := X.K) (C := C) (by show ((false || (backTo pos (starEach es X.env)).any (·.1)) || false) = false; rw [hpl]; rfl) (PySem.Calls.evalArgs_plain ?_)
  have := ha.run pos pins s1 σ _ _ I1 ht
  rw [he] at this
  refine thn this fun us s2 ⟨vs, H2, I2, r, hi, q⟩ => ?_
  obtain ⟨dx, fs, hi⟩ := hi
  refine ⟨ins_k I2 hi, ?_⟩
  obtain ⟨ox, od, X1, J, hd⟩ := ins_k I2 hi
  have r2 : Vals (V.ref a :: vs) (Value.ref a :: us) := .cons rfl r
  have hl : (Value.ref a :: us ++ []).length = ps.length := by rw [List.append_nil, ← r2.length]; exact F.len _ _ _ _ q
  refine wpAny_call (PySem.W.kco_code X1 J hd hm.at_ hm.isF hm.fn ?_)
  refine codeAny_mono (F.run X.A X.stack s2 H2 ⟨Value.ref a :: us, []⟩ (Value.ref a :: us) (V.ref a :: vs) Q (E σ) hr I2.env0 (by have := hb s2 (Value.ref a :: us) I2.kIn hl; rw [List.append_nil] at this; exact this) r2 q) fun r s' hq => ?_
  cases r with
  | error e => exact hx σ pins H2 s2 e s' I2 hq
  | ok fl =>
    cases fl with
    | ret u => exact I2.after hq
    | next => exact False.elim hq
    | brk => exact False.elim hq
    | cont => exact False.elim hq
theorem pe_callOk {E : XK} (F : FnOk X.prog X.w X.K X.mg X.base CX k f fd ps sp) (hm : CallM X.K C f) (hr : Room k X.A) (hb : KBn X.K fd ps 1 ks g gV) (hx : Passes CX X E) (hN : X.N[i]? = some x) (hv : Vis X.env.scope x) (hkw : PK X kws tk)
    (hdb : (x == ("__debug__" : Str)) = false := by decide) (hcd : (x == ("__classdict__" : Str)) = false := by decide)
    (hall : (backToKw pos (keywordEach kws X.env)).all (·.1.isSome) = true := by rfl) (hks : (backToKw pos (keywordEach kws X.env)).filterMap (·.1) = ks := by rfl)
    (hpl : ((backTo pos (starEach [] X.env)).any (·.1) || (backToKw pos (keywordEach kws X.env)).any (·.1.isNone)) = false := by rfl) : PE X (.Call (.Name x p) [] kws pos) (tCallOk i C ks.length sp gV E tk) := by
  refine ⟨fun pins s σ H Q I h => ?_⟩
  obtain ⟨a, hs, ht⟩ := h
  refine wpAny_Call_Name_kw (thn ((pe_var (pos := p) hN hv hdb hcd).run pins s σ H (fun v H1 => v = .ref a ∧ H1 = H) I ⟨.ref a, hs, rfl, rfl⟩) fun u s1 ⟨v, H1, I1, r1, q1⟩ => ?_)
  obtain ⟨rfl, rfl⟩ := q1
  cases r1
  refine callWith_ins (K := X.K) (C := C) hpl (evalArgs_kw2_nil hall ?_)
  refine thn (hkw.run pos pins s1 σ _ _ I1 ht) fun ws s2 ⟨zs, H2, I2, rz, hi, l2, q⟩ => ?_
  obtain ⟨dx, fs, hi⟩ := hi
  rw [hks]
  refine ⟨ins_k I2 hi, ?_⟩
  obtain ⟨ox, od, X1, J, hd⟩ := ins_k I2 hi
  have r2 := hb.rel (vs := [V.ref a]) (us := [Value.ref a]) (.cons rfl .nil) rz
  show wpAny _ _ (call (.ref a) [] (ks.zip ws)) _ _ _
  refine wpAny_call (PySem.W.kco_code X1 J hd hm.at_ hm.isF hm.fn ?_)
  refine codeAny_mono (F.run X.A X.stack s2 H2 ⟨[.ref a], ks.zip ws⟩ (g [.ref a] ws) (gV [.ref a] zs) Q E hr I2.env0 (hb.to s2 [.ref a] ws I2.kIn rfl (rz.length.symm.trans l2)) r2 q) fun r s' hq => ?_
  cases r with
  | error e => exact hx pins σ H2 s2 e s' I2 hq
  | ok fl =>
    cases fl with
    | ret u => exact I2.after hq
    | next => exact False.elim hq
    | brk => exact False.elim hq
    | cont => exact False.elim hq
end
end Lm

namespace Lm
open PySem L2 LamX PySem.Spec PyProof.Rows
/-! ### a lambda handed to a def that handles its errors: what is wished of an error may speak of the def's own slots -/
section
variable {X : Cx} {pins : List (Addr × Obj)} {σ : L2.St} {H : Hp} {s : Shared}
theorem pe_actS {CXg : CXT} {Eg : XK} {Ng : List Str} {qg : Str} {sg : Scope} {g f c' : Addr} {cdg pm ctv : Value} {params : Arguments} {body : Expr} {scope : Scope} {k i : Nat} {a : Str} {pn : List (Addr × Obj)} {xe : Value → Shared → Prop} {W : WX} {tb : XK → TE} {p1 p2 : Pos}
    (I : Inv X pins σ H s) (L : LamS X.env.scope scope) (hf : s.heap.get? f = some (PySem.W.kla_obj "<lambda>" (X.env.qual ++ "<lambda>") params body scope (cloFrom X.env.cells scope.names []) pm c' ctv)) (hfn : H f = none) (hfr : f ∉ frs X.stack)
    (hbind : bindArgs (PySem.W.kla_fn "<lambda>" (X.env.qual ++ "<lambda>") params body scope (cloFrom X.env.cells scope.names []) pm (.ref c') ctv) ⟨[], []⟩ = pure [])
    (tk : Takes ((cxOf CXg X.prog X.w X.K X.mg X.base Ng qg sg g cdg X.A X.stack s H Eg).tr pn xe) W) (hr : Room (k + 1) (X.A.deeper (envOfC qg sg s.heap.objs.size g cdg)))
    (hbody : ∀ (E : XK) (A : Around) (outer : List Env) (s : Shared) (H : Hp), Room k (A.deeper (lamEnv X scope s.heap.objs.size f c')) → PE (lamCx X A outer s H E scope f c') body (tb E))
    (hN : Ng[i]? = some a) (hv : Vis sg a) (hd : (a == ("__debug__" : Str)) = false := by decide) (hcd : (a == ("__classdict__" : Str)) = false := by decide) :
    PE ((cxOf CXg X.prog X.w X.K X.mg X.base Ng qg sg g cdg X.A X.stack s H Eg).tr pn xe) (.Call (.Name a p1) [] [] p2)
      (fun σZ HZ Q => σZ[i]? = some (some (.ref f)) ∧ HZ c' = some (CodeO c' (X.env.qual ++ "<lambda>")) ∧ tb (WE W σZ) σ HZ Q) := by
  refine ⟨fun pinsZ sZ σZ HZ Q IZ h => ?_⟩
  obtain ⟨hs, hc, ht⟩ := h
  refine wpAny_Call_Name_kw (thn ((pe_var (pos := p1) (i := i) hN hv hd hcd).run pinsZ sZ σZ HZ (fun v H1 => v = .ref f ∧ H1 = HZ) IZ ⟨.ref f, hs, rfl, rfl⟩) fun u s1 ⟨v, H1, I1, r1, q1⟩ => ?_)
  obtain ⟨ev, eH⟩ := q1
  subst ev
  rw [eH] at I1
  obtain rfl : u = Value.ref f := r1
  have of1 := I1.base.keep f _ hf hfn hfr (fun z => nomatch (show f ∈ ([] : List Addr) from z))
  refine PySem.W.callWith_F0 ⟨_, _, _, _, of1⟩ ?_
  have un : Un (frs X.stack) [] H HZ s.heap s1.heap := I1.base
  obtain ⟨⟨oc, vs, t, hoc, hdc, hvc⟩, _, _⟩ := I1.hok c' _ hc
  have rc : codeAny (model X.prog X.w) (X.A.deeper (envOfC qg sg s.heap.objs.size g cdg)) (.call (.ref f) ⟨[], []⟩) (CR (L2.CX X.prog X.w) (envOfC qg sg s.heap.objs.size g cdg :: X.stack) X.prog X.w HZ s1 Q (WE W σZ)) s1 := by
    refine PySem.W.kla_callFunE hr.depth of1 rfl L.co L.gen rfl ⟨c', oc, vs, t, rfl, hoc, hdc, hvc⟩ ?_
    rw [hbind]
    refine wpAny_pure (wpAny_newFunctionEnv (fun y hy => (L.own y hy).2) (fun y hy => absurd hy (by simp)) (fun h₁ hns hsb => ⟨I1.nolimit.fresh _ hsb, ?_⟩) L.kind)
    show codeAny _ _ (.expr body (lamEnv X scope s1.heap.objs.size f c')) _ _
    have kp : ∀ b o, s1.heap.get? b = some o → h₁.get? b = some o := fun b o e => hsb.extBut b o (Nat.ne_of_lt (Heap.lt_size e)) (Heap.get?_push_of_some _ e)
    have J : Inv (lamCx X (X.A.deeper (envOfC qg sg s.heap.objs.size g cdg)) (envOfC qg sg s.heap.objs.size g cdg :: X.stack) s1 HZ (WE W σZ) scope f c') [] σ HZ { s1 with heap := h₁, toks := s1.toks + ([] : List (Str × Value)).length } :=
      lam_start2 I L I1.env0 hr.hd un hns kp
    refine PySem.W.kla_codeExpr (wpAny_mono ((hbody _ _ _ s1 HZ (hr.deeper _)).run [] _ _ HZ Q J ht) (fun v s' hq => ?_) fun e s' hq => hq)
    obtain ⟨w', H', J', rv, q⟩ := hq
    exact ⟨w', H', J'.os, J'.bare, J'.base, J'.hok, rv, q⟩
  have hx : PassesAt (L2.CX X.prog X.w) ((cxOf CXg X.prog X.w X.K X.mg X.base Ng qg sg g cdg X.A X.stack s H Eg).tr pn xe) σZ (WE W σZ) := passAt tk σZ
  refine wpAny_call (codeAny_mono rc fun r s' hq => ?_)
  cases r with
  | error e => exact hx pinsZ HZ s1 e s' I1 hq
  | ok fl =>
    cases fl with
    | ret u => exact I1.after hq
    | next => exact False.elim hq
    | brk => exact False.elim hq
    | cont => exact False.elim hq
/-- the def that calls what it got, and handles its errors with its own slots at hand -/
def GivesToS (X : Cx) (Ng : List Str) (x : Str) (sg : Scope) (g : Addr) (cdg : Value) (bg : List Stmt) (a : Str) (q : Str) (k : Nat) (TT : (XK → Hp → VK → Prop) → Hp → VK → Prop) : Prop :=
  ∀ (f c' : Addr) (s : Shared) (H : Hp) (Q : VK) (tl : XK → Hp → VK → Prop), Room (k + 1) (X.A.deeper (envOfC x sg s.heap.objs.size g cdg)) →
    (∀ (W : WX) (pn : List (Addr × Obj)) (xe : Value → Shared → Prop) (p1 p2 : Pos), Takes ((cxOf C8.CX0 X.prog X.w X.K X.mg X.base Ng x sg g cdg X.A X.stack s H C8.E0).tr pn xe) W →
      PE ((cxOf C8.CX0 X.prog X.w X.K X.mg X.base Ng x sg g cdg X.A X.stack s H C8.E0).tr pn xe) (.Call (.Name a p1) [] [] p2) (fun σZ HZ Q => σZ[0]? = some (some (.ref f)) ∧ HZ c' = some (CodeO c' q) ∧ tl (WE W σZ) HZ Q)) →
    H c' = some (CodeO c' q) → TT tl H Q →
    ∃ t, PSs (cxOf C8.CX0 X.prog X.w X.K X.mg X.base Ng x sg g cdg X.A X.stack s H C8.E0).nox bg t ∧ t { nx := fun _ H' => Q .non H', rt := Q } (L2.start Ng [.ref f]) H
theorem pe_lamcallS {T : List (Addr × Str)} {TT : (XK → Hp → VK → Prop) → Hp → VK → Prop} {x a : Str} {g c P : Addr} {k : Nat} {pg : Arguments} {bg : List Stmt} {sg : Scope} {dV kV doc pm cdv ct oc : Value} {an od : Option Addr} {osl : Array (Option Value)} {Ng : List Str}
    {params : Arguments} {body : Expr} {scope : Scope} {t : XK → TE} {p lpos pos : Pos} (hg : Gl X x) (hm : X.mg x = some (.ref g)) (hk : PySem.W.keepIn X.K (.ref g) = true)
    (lk : X.K.lookup g = some ⟨oc, od, .func (PySem.W.fnOf x x pg bg sg dV kV doc pm an cdv ct), osl⟩) (hcg : PySem.W.codeIn X.K cdv x = true) (hb : L2.Binds X.K (PySem.W.fnOf x x pg bg sg dV kV doc pm an cdv ct) [a] []) (Sg : FnScope Ng [a] sg) (hNg : Ng[0]? = some a) (hva : Vis sg a)
    (hG : GivesToS X Ng x sg g cdv bg a (X.env.qual ++ "<lambda>") k TT)
    (TB : TabB X.base X.mg c P) (hcode : X.env.code = .ref c) (hmT : (P, X.env.qual ++ "<lambda>") ∈ T) (hu : ∀ p ∈ T, p.1 = P → p.2 = X.env.qual ++ "<lambda>") (hr : Room (k + 2) X.A) (L : LamS X.env.scope scope) (hdef : defaultsOf params X.env = ([], []))
    (hbind : ∀ (q : Str) (cl : List (Str × Addr)) (pm cv ctv : Value), bindArgs (PySem.W.kla_fn "<lambda>" q params body scope cl pm cv ctv) ⟨[], []⟩ = pure [])
    (hbody : ∀ (A : Around) (outer : List Env) (s : Shared) (H : Hp) (E : XK) (f c' : Addr), Room k (A.deeper (lamEnv X scope s.heap.objs.size f c')) → PE (lamCx X A outer s H E scope f c') body (t E))
    (hdb : (x == ("__debug__" : Str)) = false := by decide) (hd : (a == ("__debug__" : Str)) = false := by decide) (hcd : (a == ("__classdict__" : Str)) = false := by decide) :
    PE X (.Call (.Name x p) [.Lambda params body scope lpos] [] pos) (tLam T TT t) := by
  refine ⟨fun pins s σ H Q I h => ?_⟩
  obtain ⟨hT, h⟩ := h
  refine wpAny_Call_Name_kw (ld_glob I hg hm ?_ hdb)
  refine PySem.W.callWith_K (h₀ := X.base) I.ok.mod.kin hk ?_ (by rfl) (by rfl)
  show wpAny _ _ (spliced ((false, eval (.Lambda params body scope lpos) X.env) :: backTo pos (starEach [] X.env))) _ _ s
  refine Calls.spliced_cons (lam_make2 I TB hcode hmT hu hT hdef (L.has I.ok) fun f c' pm' ctv H1 s' I1 eN T1 hf hfn hfr hco => ?_)
  refine Calls.spliced_nil ⟨I1.kIn, ?_⟩
  have rc : codeAny (model X.prog X.w) X.A (.call (.ref g) ⟨[.ref f], []⟩) (CR C8.CX0 X.stack X.prog X.w H1 s' Q C8.E0) s' := by
    refine run_ofS (N := Ng) (ps := [a]) (us := [.ref f]) (vs := [.ref f]) lk hcg Sg hr I1.env0 (hb s' [.ref f] I1.kIn rfl) (.cons rfl .nil) rfl fun hr' => ?_
    obtain ⟨t', ht', hq'⟩ := hG f c' s' H1 Q (fun E H' Q' => t E σ H' Q') hr' (fun W pn xe p1 p2 tk => pe_actS (i := 0) I1 L hf hfn hfr (hbind _ _ _ _ _) tk hr' (fun E A outer s H hr2 => hbody A outer s H E f c' hr2) hNg hva hd hcd) hco (h H1 eN T1)
    exact ⟨t', ht'.nox, hq'⟩
  refine wpAny_call (codeAny_mono rc fun r s2 hq => ?_)
  cases r with
  | error e => exact (show False from hq).elim
  | ok fl =>
    cases fl with
    | ret u => exact I1.after hq
    | next => exact False.elim hq
    | brk => exact False.elim hq
    | cont => exact False.elim hq
end
end Lm

namespace Lm
open PySem L2 LamX PySem.Spec PyProof.Rows
section
variable {X : Cx} {A : Around} {outer : List Env} {s : Shared} {H : Hp} {E : XK} {scope : Scope} {f c' : Addr} {k : Nat} {C g : Addr} {fd : FuncData} {ps : List Str} {sp : Sp} {m : Str}
/-- in a lambda's body: what a call raises is the lambda's -/
theorem lam_passes : Passes (L2.CX X.prog X.w) (lamCx X A outer s H E scope f c') E := passes_call (takes_of rfl rfl rfl rfl) fun _ _ _ _ h => h
theorem MetOkX.binL {op : Operator} (D : MetOkX X.prog X.w X.K X.mg X.base k C (PySem.dunder op.info.2) g fd ps sp) (hc : PySem.W.selfFirst X.K C = true) (hr : Room k (lamCx X A outer s H E scope f c').A) : OpR (lamCx X A outer s H E scope f c') (binaryOp op) (rBinOwn C sp E) :=
  op_binOwn (X := lamCx X A outer s H E scope f c') D.ok hc D.mt.at_ D.mt.fn D.bd hr lam_passes
theorem MetOkX.leL (D : MetOkX X.prog X.w X.K X.mg X.base k C "__le__" g fd ps sp) (hr : Room k (lamCx X A outer s H E scope f c').A) : OpR (lamCx X A outer s H E scope f c') (compareOp .LtE) (rBinOwn C sp E) :=
  op_cmpOwn (X := lamCx X A outer s H E scope f c') (fun _ _ => rfl) D.ok D.mt.at_ D.mt.fn D.bd hr lam_passes
theorem MetOkX.ltL (D : MetOkX X.prog X.w X.K X.mg X.base k C "__lt__" g fd ps sp) (hr : Room k (lamCx X A outer s H E scope f c').A) : OpR (lamCx X A outer s H E scope f c') (compareOp .Lt) (rBinOwn C sp E) :=
  op_cmpOwn (X := lamCx X A outer s H E scope f c') (fun _ _ => rfl) D.ok D.mt.at_ D.mt.fn D.bd hr lam_passes
end
/-- a def whose code object is known: what it makes (lambdas) is noted in that object's table -/
theorem okC {P : Program} {w : World} {K : PySem.W.Frag} {mg : Str → Option Value} {base : Heap} {x qual : Str} {st : Stmt} {f c : Addr} {fd : FuncData} {N ps : List Str} {k : Nat} {sp : Sp} (F : L2.Fun K x qual st f fd) (hc : fd.code = Value.ref c) (S : FnScope N ps (defScope st)) (len : ∀ vs H Q E, sp vs H Q E → vs.length = ps.length)
    (hbody : ∀ (A : Around) (outer : List Env) (s : Shared) (H : Hp) (vs : List V) (Q : VK) (E : XK), Room k (A.deeper (envOfC qual (defScope st) s.heap.objs.size f (.ref c))) → sp vs H Q E →
      ∃ t, PSs (cxOf CX0 P w K mg base N qual (defScope st) f (.ref c) A outer s H E).nox (defBody st) t ∧ t { nx := fun _ H' => Q .non H', rt := Q } (L2.start N vs) H) : FnOk P w K mg base CX0 (k + 1) f fd ps sp := by
  obtain ⟨oc, od, kV, doc, pm, an, cdv, ct, osl, rfl, lk, hcd⟩ := F.ex
  have e : cdv = .ref c := hc
  subst e
  refine fn_of lk hcd S len fun A outer s H vs Q E hr hsp => ?_
  obtain ⟨t, h, q⟩ := hbody A outer s H vs Q E hr hsp
  exact ⟨t, h.nox, q⟩
end Lm

namespace Lm
open PySem L2 PySem.Spec PyProof.Rows
/-! ### several except clauses, each with a name or without -/
abbrev Clause := Value × Option Nat × (Addr → Value → Option Addr → TS)
/-- behind a clause its name is gone -/
def offEnds : Option Nat → Ends → Ends
  | none, D => D
  | some i, D => ⟨fun τ G => D.nx (τ.set i none) G, D.rt, fun τ G => D.bk (τ.set i none) G, fun τ G => D.ct (τ.set i none) G⟩
/-- in it the name holds the error -/
def onSt : Option Nat → Addr → L2.St → L2.St
  | none, _, τ => τ
  | some i, a, τ => τ.set i (some (.ref a))
def wClauses (K : PySem.W.Frag) (Wo : WX) (D : Ends) : List Clause → WX
  | [] => Wo
  | (c, o, ts) :: r => fun cls d τ G => ∃ b, PySem.W.exmOne K cls c = some b ∧ (b = true → ∀ a, G a = none → ts a cls d (offEnds o D) (onSt o a τ) G) ∧ (b = false → wClauses K Wo D r cls d τ G)
/-- a clause's name, its slot -/
def NmOk (X : Cx) : Option Str → Option Nat → Prop
  | none, none => True
  | some n, some i => X.N[i]? = some n ∧ X.env.kindOf n = some .local
  | _, _ => False
inductive Clauses (X : Cx) : List ExceptHandler → List Clause → Prop
  | nil : Clauses X [] []
  | cons {x : Str} {n : Option Str} {o : Option Nat} {c : Value} {ts : Addr → Value → Option Addr → TS} {st : Stmt} {sts : List Stmt} {p1 p2 : Pos} {hs : List ExceptHandler} {l : List Clause} (hx : Names X x c) (hn : NmOk X n o)
      (hb : ∀ (a : Addr) (ob : Obj) (cls : Value) (d : Option Addr) (pn : List (Addr × Obj)), Zc cls d ob → (∃ vs, ob.data = .fields vs) → PSs (X.suite a ((a, ob) :: pn)) (st :: sts) (ts a cls d)) (r : Clauses X hs l) :
      Clauses X (.ExceptHandler (some (.Name x p1)) n (st :: sts) p2 :: hs) ((c, o, ts) :: l)
section
variable {X : Cx} {blk : List Stmt} {h1 : ExceptHandler} {hr : List ExceptHandler} {cl : List Clause} {p : Pos} {tb : WX → TS} {Wo : WX}
theorem ps_clauses (e1 : X.stack = X.env :: X.outer) (e2 : X.env.frame = some X.env.locals) (nd : X.N.Nodup) (tk : Takes X Wo)
    (hbl : ∀ (W : WX) (pn : List (Addr × Obj)) (xe : Value → Shared → Prop), Takes (X.tr pn xe) W → PassesOwn (model X.prog X.w) X.A X.env xe → PSs (X.tr pn xe) blk (tb W)) (hcl : Clauses X (h1 :: hr) cl) :
    PS X (.Try blk (h1 :: hr) [] [] p) (fun D τ G => tb (wClauses X.K Wo D cl) D τ G) := by
  refine ⟨fun pins s τ G D J wish => ?_⟩
  have wf := J.ok
  have efr : X.A.frames = some (X.env :: X.outer) := wf.frames.trans (congrArg some e1)
  have go := (hbl (wClauses X.K Wo D cl) (X.pn ++ pins) (fun e z => wpAny (model X.prog X.w) X.A (noteFrame e X.env) (fun _ z2 => wpAny (model X.prog X.w) X.A (setFlight e none) (fun _ z3 =>
    wpAny (model X.prog X.w) X.A (handleBy e X.env (h1 :: hr)) (SP X pins D) X.xe z3) X.xe z2) X.xe z) ?caught PassesOwn.looking).run [] s τ G D (J.toTry _) wish
  case caught =>
    intro u z ht
    obtain ⟨er, fr, z0, pz, τ1, G1, cls, d, rfl, Jt, notBare, upw, hsky, fresh, eos, eag, wsh⟩ := ht
    have Ji := Jt.ofTry wf
    show wpAny (model X.prog X.w) X.A (noteFrame (.ref er) X.env) _ _ _
    refine Sky.land Zc.steady efr e2 (e1 ▸ hsky) fun g3 land3 up3 => ?_
    have J3 : Inv X pins τ1 G1 { z with heap := g3 } := Ji.landed notBare land3.1 (upw.trans up3) eos eag
    obtain ⟨ob3, fs3, get3, zc3, dat3⟩ := land3.there
    have off : er ∉ frs (X.env :: X.outer) := fun hm => by
      obtain ⟨_, ob', get', nofs⟩ := land3.2.2.1.mem hm
      rw [get3] at get'
      cases get'
      exact nofs _ dat3
    have offL : er ≠ X.env.locals := fun eq => off (List.mem_filterMap.mpr ⟨X.env, List.mem_cons_self, eq ▸ e2⟩)
    have offF : er ∉ X.fs := fun hm => by
      obtain ⟨en, hen, q⟩ := List.mem_filterMap.mp hm
      exact off (List.mem_filterMap.mpr ⟨en, List.mem_cons_of_mem _ hen, q⟩)
    have Sx := J3.suite get3 dat3 fresh offL offF
    have each : ∀ {hs : List ExceptHandler} {l : List Clause}, Clauses X hs l → wClauses X.K Wo D l cls d τ1 G1 → wpAny (model X.prog X.w) X.A (handleBy (.ref er) X.env hs) (SP X pins D) X.xe { z with heap := g3 } := by
      intro hs l hl
      induction hl with
      | nil =>
        intro out
        refine wpAny_handleBy_nil ?_
        obtain ⟨_, _, _, obx, vsx, Tx, _, _, getx, _, datx, slot, _⟩ := id land3
        unfold PySem.passOn
        refine wpAny_bind (wpAny_field getx datx slot ?_)
        rw [if_neg (show ¬ ((Value.ref Tx == Value.none) = true) by simp)]
        have leave : wpAny (model X.prog X.w) X.A (setFlight (.ref er) X.env.frame) (fun _ z4 => wpAny (model X.prog X.w) X.A (throw (.ref er) : Sem Flow) (SP X pins D) X.xe z4) X.xe { z with heap := g3 } := by
          rw [e2]
          exact HandSPX.setFlight_upZ land3 fun g4 hot4 up4 => wpAny_throw (tk _ _ ⟨er, fr, z0, pins, τ1, G1, cls, d, rfl, Ji, notBare, (upw.trans up3).trans up4, Or.inr (Or.inr (by rw [e1]; exact hot4)), fresh, eos, eag, out⟩)
        first
          | exact wpAny_bind leave
          | exact wpAny_bind (wpAny_pure (wpAny_bind leave))
      | @cons x n o c ts st sts q1 q2 hs2 l2 hx hn hbd rest ih =>
        intro out
        obtain ⟨b, fits, yes, no⟩ := out
        refine wpAny_handleBy_cons (codeAny_handlers_test ?_) (fun q => by cases q)
        have look : PySem.W.Looks (model X.prog X.w) g3 (typeOf (.ref er)) cls := fun A Q E s k q => wpAny_typeOf_ref (k _ _ get3) (zc3.1.symm ▸ q)
        have match_ := PySem.W.exm_one (M := model X.prog X.w) J3.kIn look fits
        have named : ∀ {Q E : Value → Shared → Prop}, Q c { z with heap := g3 } → wpAny (model X.prog X.w) (X.A.mark (some (.ref er))) (eval (.Name x q1) X.env) Q E { z with heap := g3 } := fun {Q E} q => by
          obtain ⟨k1, k2, m1 | ⟨m1, m2, m3⟩⟩ := hx
          · exact ld_glob (X := X.suite er ((er, ob3) :: (X.pn ++ pins))) Sx k1 m1 q k2
          · exact ld_blt (X := X.suite er ((er, ob3) :: (X.pn ++ pins))) Sx k1 m1 m2 q m3 k2
        refine named (match_.here ?_)
        cases b with
        | false =>
          show wpAny _ X.A (handleBy (.ref er) X.env hs2) _ _ _
          exact ih (no rfl)
        | true =>
          match n, o, hn, yes rfl er fresh with
          | none, none, _, w1 =>
            refine codeAny_handlers_suite (HandSPX.lands_againZ land3 fun g4 land4 up4 => ?_)
            have J4 : Inv X pins τ1 G1 { z with heap := g4 } := Ji.landed notBare land4.1 ((upw.trans up3).trans up4) eos eag
            obtain ⟨ob4, fs4, get4, zc4, dat4⟩ := land4.there
            have S4 := J4.suite get4 dat4 fresh offL offF
            refine wpAny_mono ((hbd er ob4 cls d (X.pn ++ pins) zc4 ⟨_, dat4⟩).run [] _ _ G1 _ S4 w1) (fun f z6 fin => ?_) (fun _ _ bad => bad.elim)
            match f, fin with
            | .next, ⟨_, _, S6, q⟩ => exact ⟨_, _, S6.unsuite wf, q⟩
            | .brk, ⟨_, _, S6, q⟩ => exact ⟨_, _, S6.unsuite wf, q⟩
            | .cont, ⟨_, _, S6, q⟩ => exact ⟨_, _, S6.unsuite wf, q⟩
            | .ret u, ⟨_, _, _, S6, r6, q⟩ => exact ⟨_, _, _, S6.unsuite wf, r6, q⟩
          | some nm, some i, ⟨ni, nl⟩, w1 =>
            refine codeAny_handlers_suite_as (HandSPX.lands_againZ land3 fun g4 land4 up4 => ?_)
            have J4 : Inv X pins τ1 G1 { z with heap := g4 } := Ji.landed notBare land4.1 ((upw.trans up3).trans up4) eos eag
            obtain ⟨ob4, fs4, get4, zc4, dat4⟩ := land4.there
            have S4 := J4.suite get4 dat4 fresh offL offF
            refine store_ok (X := X.suite er ((er, ob4) :: (X.pn ++ pins))) (v := .ref er) S4 nd ni (.inl nl) rfl (fun z5 S5 => ?_) (.inr nl)
            refine wpAny_mono ((hbd er ob4 cls d (X.pn ++ pins) zc4 ⟨_, dat4⟩).run [] z5 _ G1 _ S5 w1) (fun f z6 fin => ?_) (fun _ _ bad => bad.elim)
            have drop : ∀ {τ6 : L2.St} {G6 : Hp} {Q : Shared → Prop}, Inv (X.suite er ((er, ob4) :: (X.pn ++ pins))) [] τ6 G6 z6 → (∀ z7, Inv X pins (τ6.set i none) G6 z7 → Q z7) →
                wpAny (model X.prog X.w) X.A (do bindName X.env nm .none; unbindBehindTheSuite X.env nm q2) (fun _ z7 => Q z7) X.xe z6 := fun S6 hq => gone_ok (S6.unsuite wf) nd ni nl hq
            match f, fin with
            | .next, ⟨_, _, S6, q⟩ => exact drop S6 fun _ J7 => ⟨_, _, J7, q⟩
            | .brk, ⟨_, _, S6, q⟩ => exact drop S6 fun _ J7 => ⟨_, _, J7, q⟩
            | .cont, ⟨_, _, S6, q⟩ => exact drop S6 fun _ J7 => ⟨_, _, J7, q⟩
            | .ret u, ⟨_, _, _, S6, r6, q⟩ => exact drop S6 fun _ J7 => ⟨_, _, _, J7, r6, q⟩
    exact each hcl wsh
  refine wpAny_Try_except (wpAny_mono go (fun f z fin => ?_) fun _ _ q => q)
  match f, fin with
  | .next, ⟨_, _, J1, q⟩ => exact wpAny_execs_nil ⟨_, _, J1.ofTry wf, q⟩
  | .brk, ⟨_, _, J1, q⟩ => exact ⟨_, _, J1.ofTry wf, q⟩
  | .cont, ⟨_, _, J1, q⟩ => exact ⟨_, _, J1.ofTry wf, q⟩
  | .ret u, ⟨_, _, _, J1, r1, q⟩ => exact ⟨_, _, _, J1.ofTry wf, r1, q⟩
end
end Lm

namespace Lm
open PySem L2 LamX PySem.Spec PyProof.Rows
theorem exm_at {K : PySem.W.Frag} {S C : Addr} {b : Bool} (h1 : PySem.W.subIn K (.ref C) (.type "BaseException") = some true) (h2 : PySem.W.isClsIn K C = true) (h3 : PySem.W.typeIn K (.ref C) = some (.type "type")) (h4 : PySem.W.subIn K (.ref S) (.ref C) = some b) :
    PySem.W.exmOne K (.ref S) (.ref C) = some b := by
  have e1 : (PySem.W.subIn K (.ref C) (.type "BaseException") == some true) = true := by rw [h1] <;> rfl
  have e2 : ((PySem.W.clsIn K C).isSome && PySem.W.typeIn K (.ref C) == some (.type "type")) = true := by
    have h2' : (PySem.W.clsIn K C).isSome = true := h2
    rw [h2', h3] <;> rfl
  show (if (PySem.W.subIn K (.ref C) (.type "BaseException") == some true) = true then (if ((PySem.W.clsIn K C).isSome && PySem.W.typeIn K (.ref C) == some (.type "type")) = true then PySem.W.subIn K (.ref S) (.ref C) else none) else none) = some b
  rw [if_pos e1, if_pos e2]
  exact h4
/-- an error with one field, as it is raised -/
def ErrAt (C : Addr) (fn : Str) (cls : Value) (d : Option Addr) (H : Hp) (v : V) : Prop := cls = .ref C ∧ ∃ dd fs, d = some dd ∧ H dd = some (.xd fs) ∧ fs.lookup fn = some v
/-- what is made of an error by a clause with a field, and by one without -/
def ClF (C : Addr) (fn tag : Str) (Q : VK) : XK := fun cls d H => ∃ v, ErrAt C fn cls d H v ∧ ∀ p, H p = none → Q (.ref p) (upd H p (.tup [.str tag, v]))
def ClO (C : Addr) (tag : Str) (Q : VK) : XK := fun cls d H => cls = .ref C ∧ ∀ p, H p = none → Q (.ref p) (upd H p (.tup [.str tag]))
def Cl2 (A B : VK → XK) : VK → XK := fun Q cls d H => A Q cls d H ∨ B Q cls d H
/-- found = ("odd",); try: found = (tag, ask()) / except .. -/
def TTtr (Cl : VK → XK) (post : V → Hp → VK → Prop) : (XK → Hp → VK → Prop) → Hp → VK → Prop := fun tl H Q => ∀ p0, H p0 = none → ∀ (E : XK) (R : VK), (∀ cls d H', Cl Q cls d H' → E cls d H') → (∀ v H', post v H' Q → R v H') → tl E (upd H p0 (.tup [.str "odd"])) R
/-- (tag, v) is told -/
def pTold (tag : Str) : V → Hp → VK → Prop := fun v H Q => ∀ p, H p = none → Q (.ref p) (upd H p (.tup [.str tag, v]))
section
variable {X : Cx} {k : Nat} {f C : Addr} {fd : FuncData} {ps : List Str} {sp : Sp} {E : XK} {x m : Str} {p pos apos : Pos} {e o : Expr} {es : List Expr} {ta : TE} {t : TA}
theorem pe_mXc {pl : Sem Bool} (D : MetOkX X.prog X.w X.K X.mg X.base k C m f fd ps sp) (hr : Room k X.A) (hx : Passes (L2.CX X.prog X.w) X E) (he : PE X o ta) (ha : PA X (e :: es) t)
    (hst : starEach (e :: es) X.env = (false, eval e X.env) :: starEach es X.env := by rfl) (hpl : (backTo pos (starEach es X.env)).any (·.1) = false := by rfl)
    (ht : eval (.Call (.Attribute o m apos) (e :: es) [] pos) X.env = (do
      let ov ← eval o X.env
      standAt apos.atName
      let (f, first) ← holding [ov] (getMethod ov m pl)
      callWith pos f first (backTo pos (starEach (e :: es) X.env)) (backToKw pos (keywordEach [] X.env))) := by rfl) :
    PE X (.Call (.Attribute o m apos) (e :: es) [] pos) (tMeth C m sp [] E ta t) := pe_meth (pl := pl) he D.cl D.mt D.ok hr D.bd .nil hx ha hst hpl ht
end
section
variable {X : Cx} {A : Around} {outer : List Env} {s : Shared} {H : Hp} {E : XK} {scope : Scope} {f c' : Addr} {k : Nat} {C g : Addr} {fd : FuncData} {ps : List Str} {sp : Sp} {m x : Str} {p pos apos : Pos} {e o : Expr} {es : List Expr} {ta : TE} {t : TA}
theorem pe_mL {pl : Sem Bool} (D : MetOkX X.prog X.w X.K X.mg X.base k C m g fd ps sp) (hr : Room k (lamCx X A outer s H E scope f c').A) (he : PE (lamCx X A outer s H E scope f c') o ta) (ha : PA (lamCx X A outer s H E scope f c') (e :: es) t)
    (hst : starEach (e :: es) (lamCx X A outer s H E scope f c').env = (false, eval e (lamCx X A outer s H E scope f c').env) :: starEach es (lamCx X A outer s H E scope f c').env := by rfl) (hpl : (backTo pos (starEach es (lamCx X A outer s H E scope f c').env)).any (·.1) = false := by rfl)
    (ht : eval (.Call (.Attribute o m apos) (e :: es) [] pos) (lamCx X A outer s H E scope f c').env = (do
      let ov ← eval o (lamCx X A outer s H E scope f c').env
      standAt apos.atName
      let (f1, first) ← holding [ov] (getMethod ov m pl)
      callWith pos f1 first (backTo pos (starEach (e :: es) (lamCx X A outer s H E scope f c').env)) (backToKw pos (keywordEach [] (lamCx X A outer s H E scope f c').env))) := by rfl) :
    PE (lamCx X A outer s H E scope f c') (.Call (.Attribute o m apos) (e :: es) [] pos) (tMeth C m sp [] E ta t) :=
  pe_meth (X := lamCx X A outer s H E scope f c') (pl := pl) (CX := L2.CX X.prog X.w) (E := E) he D.cl D.mt D.ok hr D.bd .nil (lam_passes (X := X) (A := A) (outer := outer) (s := s) (H := H) (E := E) (scope := scope) (f := f) (c' := c')) ha hst hpl ht
theorem pe_dL (D : DefOkX X.prog X.w X.K X.mg X.base k x g fd ps sp) (hr : Room k (lamCx X A outer s H E scope f c').A) (ha : PA (lamCx X A outer s H E scope f c') (e :: es) t) (hg : Gl (lamCx X A outer s H E scope f c') x) (hdb : (x == ("__debug__" : Str)) = false := by decide)
    (he : starEach (e :: es) (lamCx X A outer s H E scope f c').env = (false, eval e (lamCx X A outer s H E scope f c').env) :: starEach es (lamCx X A outer s H E scope f c').env := by rfl) (hpl : (backTo pos (starEach es (lamCx X A outer s H E scope f c').env)).any (·.1) = false := by rfl) :
    PE (lamCx X A outer s H E scope f c') (.Call (.Name x p) (e :: es) [] pos) (tCall sp [] E t) :=
  pe_call (X := lamCx X A outer s H E scope f c') (CX := L2.CX X.prog X.w) (E := E) D.ok hr hg D.mg D.kp D.bd .nil (lam_passes (X := X) (A := A) (outer := outer) (s := s) (H := H) (E := E) (scope := scope) (f := f) (c' := c')) ha hdb he hpl
end
/-- what is asked raises the first clause's error -/
theorem go_trA {Cl : VK → XK} {post : V → Hp → VK → Prop} {Tl : List (Addr × Str)} {C : Addr} {fn tag : Str} {x : V} {σ : L2.St} {H : Hp} {Q : VK} {t : XK → TE} (T : Tabs Tl H) (hC : ∀ Q cls d H, ClF C fn tag Q cls d H → Cl Q cls d H)
    (h : ∀ H1, ExtN H H1 → ∀ (E : XK) (R : VK), (∀ H' d, (∀ b o, H1 b = some o → H' b = some o) → H' d = none → E (.ref C) (some d) (upd H' d (.xd [(fn, x)]))) → t E σ H1 R)
    (k : ∀ p H1, ExtN H H1 → Tabs Tl H1 → (∀ o, H p = some o → ∃ ps, o = .tbl ps) → H1 p = some (.tup [.str tag, x]) → Q (.ref p) H1) : tLam Tl (TTtr Cl post) t σ H Q := by
  refine ⟨T, fun H1 e1 T1 p0 np0 E R hE _ => ?_⟩
  have s0 : ∀ b o, H1 b = some o → upd H1 p0 (.tup [.str "odd"]) b = some o := fun b o e => by rw [upd_ne (ne_of_none e np0)]; exact e
  refine h _ (e1.trans (.of s0)) E R fun H' d s nd => hE _ _ _ (hC _ _ _ _ ⟨x, ⟨rfl, d, _, rfl, upd_same, by simp [List.lookup]⟩, fun p np => ?_⟩)
  have s1 : ∀ b o, H1 b = some o → upd (upd H' d (.xd [(fn, x)])) p (.tup [.str tag, x]) b = some o := fun b o e => by
    have e2 := s _ _ (s0 b o e)
    have e3 : upd H' d (.xd [(fn, x)]) b = some o := by rw [upd_ne (ne_of_none e2 nd)]; exact e2
    rw [upd_ne (ne_of_none e3 np)]; exact e3
  refine k p _ (e1.trans (.of s1)) (T1.ext s1) (fun o ho => Classical.byContradiction fun hc => ?_) upd_same
  have h1 := e1 _ _ ho fun ps z => hc ⟨ps, z⟩
  have e2 := s _ _ (s0 _ _ h1)
  have e3 : upd H' d (.xd [(fn, x)]) p = some o := by rw [upd_ne (ne_of_none e2 nd)]; exact e2
  rw [np] at e3
  cases e3
theorem free_back' {H H1 H' : Hp} {p : Addr} (e1 : ExtN H H1) (s : ∀ b o, H1 b = some o → H' b = some o) (np : H' p = none) : ∀ o, H p = some o → ∃ ps, o = .tbl ps := fun o ho => Classical.byContradiction fun hc => by
  have h1 := s _ _ (e1 _ _ ho fun ps z => hc ⟨ps, z⟩)
  rw [np] at h1
  cases h1
/-- … an error without fields -/
theorem go_trO {Cl : VK → XK} {post : V → Hp → VK → Prop} {Tl : List (Addr × Str)} {C : Addr} {tag : Str} {σ : L2.St} {H : Hp} {Q : VK} {t : XK → TE} (T : Tabs Tl H) (hC : ∀ Q cls d H, ClO C tag Q cls d H → Cl Q cls d H)
    (h : ∀ H1, ExtN H H1 → ∀ (E : XK) (R : VK), (∀ H', (∀ b o, H1 b = some o → H' b = some o) → E (.ref C) none H') → t E σ H1 R)
    (k : ∀ p H1, ExtN H H1 → Tabs Tl H1 → (∀ o, H p = some o → ∃ ps, o = .tbl ps) → H1 p = some (.tup [.str tag]) → Q (.ref p) H1) : tLam Tl (TTtr Cl post) t σ H Q := by
  refine ⟨T, fun H1 e1 T1 p0 np0 E R hE _ => ?_⟩
  have s0 : ∀ b o, H1 b = some o → upd H1 p0 (.tup [.str "odd"]) b = some o := fun b o e => by rw [upd_ne (ne_of_none e np0)]; exact e
  refine h _ (e1.trans (.of s0)) E R fun H' s => hE _ _ _ (hC _ _ _ _ ⟨rfl, fun p np => ?_⟩)
  have s1 : ∀ b o, H1 b = some o → upd H' p (.tup [.str tag]) b = some o := fun b o e => by
    have e2 := s _ _ (s0 b o e)
    rw [upd_ne (ne_of_none e2 np)]; exact e2
  exact k p _ (e1.trans (.of s1)) (T1.ext s1) (free_back' e1 (fun b o e => s _ _ (s0 b o e)) np) upd_same
/-- … it tells something -/
theorem go_trV {Cl : VK → XK} {tag : Str} {Tl : List (Addr × Str)} {σ : L2.St} {H : Hp} {Q : VK} {t : XK → TE} (T : Tabs Tl H)
    (h : ∀ H1, ExtN H H1 → Tabs Tl H1 → ∀ (E : XK) (R : VK), (∀ v H', (∀ b o, H1 b = some o → H' b = some o) → (∀ p, H' p = none → Q (.ref p) (upd H' p (.tup [.str tag, v]))) → R v H') → t E σ H1 R) : tLam Tl (TTtr Cl (pTold tag)) t σ H Q := by
  refine ⟨T, fun H1 e1 T1 p0 np0 E R _ hR => ?_⟩
  have s0 : ∀ b o, H1 b = some o → upd H1 p0 (.tup [.str "odd"]) b = some o := fun b o e => by rw [upd_ne (ne_of_none e np0)]; exact e
  exact h _ (e1.trans (.of s0)) (T1.ext s0) E R fun v H' s q => hR v H' q
end Lm

namespace Lm
open PySem L2 LamX PySem.Spec PyProof.Rows
/-- a class whose __init__ may raise -/
structure ClsOkX (P : Program) (w : World) (K : PySem.W.Frag) (mg : Str → Option Value) (base : Heap) (k : Nat) (x : Str) (C f : Addr) (fd : FuncData) (ps : List Str) (sp : Sp) : Prop where
  ok : FnOk P w K mg base (L2.CX P w) k f fd ps sp
  bd : Binds K fd ps []
  mkr : Mk K C f
  cl : Cls K C
  mg : mg x = some (.ref C)
section
variable {X : Cx} {A : Around} {outer : List Env} {s : Shared} {H : Hp} {E : XK} {scope : Scope} {f c' : Addr} {k : Nat} {C g : Addr} {fd : FuncData} {ps : List Str} {sp : Sp} {x : Str} {p pos : Pos} {e : Expr} {es : List Expr} {t : TA}
theorem MetOkX.gtL (D : MetOkX X.prog X.w X.K X.mg X.base k C "__gt__" g fd ps sp) (hr : Room k (lamCx X A outer s H E scope f c').A) : OpR (lamCx X A outer s H E scope f c') (compareOp .Gt) (rBinOwn C sp E) :=
  op_cmpOwn (X := lamCx X A outer s H E scope f c') (fun _ _ => rfl) D.ok D.mt.at_ D.mt.fn D.bd hr (lam_passes (X := X) (A := A) (outer := outer) (s := s) (H := H) (E := E) (scope := scope) (f := f) (c' := c'))
theorem MetOkX.geL (D : MetOkX X.prog X.w X.K X.mg X.base k C "__ge__" g fd ps sp) (hr : Room k (lamCx X A outer s H E scope f c').A) : OpR (lamCx X A outer s H E scope f c') (compareOp .GtE) (rBinOwn C sp E) :=
  op_cmpOwn (X := lamCx X A outer s H E scope f c') (fun _ _ => rfl) D.ok D.mt.at_ D.mt.fn D.bd hr (lam_passes (X := X) (A := A) (outer := outer) (s := s) (H := H) (E := E) (scope := scope) (f := f) (c' := c'))
theorem pe_mkL (D : ClsOkX X.prog X.w X.K X.mg X.base k x C g fd ps sp) (hr : Room (k + 1) (lamCx X A outer s H E scope f c').A) (ha : PA (lamCx X A outer s H E scope f c') (e :: es) t) (hg : Gl (lamCx X A outer s H E scope f c') x := by rfl) (hdb : (x == ("__debug__" : Str)) = false := by decide)
    (he : starEach (e :: es) (lamCx X A outer s H E scope f c').env = (false, eval e (lamCx X A outer s H E scope f c').env) :: starEach es (lamCx X A outer s H E scope f c').env := by rfl) (hpl : (backTo pos (starEach es (lamCx X A outer s H E scope f c').env)).any (·.1) = false := by rfl) :
    PE (lamCx X A outer s H E scope f c') (.Call (.Name x p) (e :: es) [] pos) (tMake C sp [] E t) :=
  pe_make (X := lamCx X A outer s H E scope f c') (CX := L2.CX X.prog X.w) (E := E) D.mkr D.ok hr hg D.mg D.bd .nil (lam_passes (X := X) (A := A) (outer := outer) (s := s) (H := H) (E := E) (scope := scope) (f := f) (c' := c')) ha hdb he hpl
end
end Lm

/-! R18: f(k2 = b, k1 = a), a def by keywords alone. -/
namespace Lm
open PySem L2
def tCallK0 (sp : Sp) (m : Nat) (gV : List V → List V → List V) (E : XK) (tk : TA) : TE := fun σ H Q => tk σ H fun zs H2 => zs.length = m ∧ sp (gV [] zs) H2 Q E
theorem Fun.swap0 {K : PySem.W.Frag} {x qual : Str} {st : Stmt} {f : Addr} {fd : FuncData} {ps : List Str} {k1 k2 : Str} (F : Fun K x qual st f fd)
    (h : ∀ (kV doc pm : Value) (an : Option Addr) (cdv ct : Value) (b c : Value), bindArgs (PySem.W.fnOf x qual (defArgs st) (defBody st) (defScope st) .none kV doc pm an cdv ct) ⟨[], [(k2, c), (k1, b)]⟩ = pure (ps.zip [b, c])) : KBn K fd ps 0 [k2, k1] swapR swapR := by
  obtain ⟨oc, od, kV, doc, pm, an, cdv, ct, osl, rfl, lk, hcd⟩ := F.ex
  refine ⟨fun s us ws X l1 l2 => ?_, fun r1 r2 => vals_app r1 (vals_rev r2)⟩
  match us, ws, l1, l2 with
  | [], [c, b], _, _ => exact .of_eq (h kV doc pm an cdv ct b c)
section
variable {X : Cx} {k : Nat} {f : Addr} {fd : FuncData} {ps ks : List Str} {sp : Sp} {x : Str} {p pos : Pos} {kws : List Keyword} {tk : TA} {g : List Value → List Value → List Value} {gV : List V → List V → List V}
theorem pe_dK (D : DefOk X.prog X.w X.K X.mg X.base k x f fd ps sp) (hb : KBn X.K fd ps 0 ks g gV) (hr : Room k X.A) (hkw : PK X kws tk) (hg : Gl X x := by rfl) (hdb : (x == ("__debug__" : Str)) = false := by decide)
    (hall : (backToKw pos (keywordEach kws X.env)).all (·.1.isSome) = true := by rfl) (hks : (backToKw pos (keywordEach kws X.env)).filterMap (·.1) = ks := by rfl)
    (hpl : ((backTo pos (starEach [] X.env)).any (·.1) || (backToKw pos (keywordEach kws X.env)).any (·.1.isNone)) = false := by rfl) :
    PE X (.Call (.Name x p) [] kws pos) (tCallK0 sp ks.length gV E0 tk) := by
  refine ⟨fun pins s σ H Q I h => ?_⟩
  refine wpAny_Call_Name_kw (ld_glob I hg D.mg ?_ hdb)
  refine PySem.W.callWith_KW0 (h₀ := X.base) I.ok.mod.kin D.kp hall ?_ hpl
  refine thn (hkw.run pos pins s σ H _ I h) fun ws s2 ⟨zs, H2, I2, rz, l2, q2⟩ => ⟨I2.kIn, ?_⟩
  rw [hks]
  have r2 := hb.rel (vs := []) (us := []) .nil rz
  have hl : (g [] ws).length = ps.length := by rw [← r2.length]; exact D.ok.len _ _ _ _ q2
  refine wpAny_call (codeAny_mono (D.ok.run X.A X.stack s2 H2 ⟨[], ks.zip ws⟩ (g [] ws) (gV [] zs) Q E0 hr I2.env0 (hb.to s2 [] ws I2.kIn rfl (rz.length.symm.trans l2)) r2 q2) fun r s' hq => ?_)
  cases r with
  | error e => exact pass0 pins σ H2 s2 e s' I2 hq
  | ok fl =>
    cases fl with
    | ret u => exact I2.after hq
    | next => exact False.elim hq
    | brk => exact False.elim hq
    | cont => exact False.elim hq
end
end Lm

/-! R17: for i, (x, y) in enumerate(zip(a, b)), two lists. -/
namespace Lm
open PySem PySem.Spec PyProof.Rows L2 RZ
open Sem (wp)
/-- a zip as it stands between two turns, its last tuple handed out or not -/
abbrev ZipG (h : Heap) (z TI TO : Addr) (f0 : Value) (f : Bool) : Prop :=
  h.get? z = some { cls := .type "zip", dict := none, data := .fields #[f0, .bool f, .bool false, .ref TI, .ref TO], slots := #[] }
def Own0 (f0 : Value) : Prop := f0 = .none ∨ ∃ T : Addr, f0 = rawInt T
def ZipA (h : Heap) (z TI TO : Addr) : Prop := ∃ f0 f, ZipG h z TI TO f0 f ∧ Own0 f0
section
variable {prog : Program} {w : World} {A : Around} {E : Value → Shared → Prop} {s : Shared}
theorem alive_any {a : Addr} {Q : Option Obj → Shared → Prop} (h : Q (s.heap.get? a) s) : wpAny (model prog w) A (loadIfAlive a) Q E s := fun _ _ _ => h
theorem owned_any {z TI TO : Addr} {f0 : Value} {f : Bool} {Q : Bool → Shared → Prop} (hz : ZipG s.heap z TI TO f0 f) (h0 : Own0 f0)
    (ht : Q true s) (hf : ∀ h', ZipG h' z TI TO f0 true → Heap.SameBut z s.heap h' → Q false { s with heap := h' }) : wpAny (model prog w) A (Builtin.SmallTypes.ownedTupleIsFree (.ref z)) Q E s := by
  unfold Builtin.SmallTypes.ownedTupleIsFree
  refine wpAny_bind (wpAny_field hz rfl (x := f0) rfl ?_)
  rcases h0 with rfl | ⟨T, rfl⟩
  · exact wpAny_pure ht
  · show wpAny _ _ (loadIfAlive ((T : Int).toNat) >>= _) _ _ _
    rw [Int.toNat_natCast]
    refine wpAny_bind (alive_any ?_)
    cases s.heap.get? T with
    | none =>
      simp only [Option.isNone_none, if_true]
      exact wpAny_pure ht
    | some o =>
      simp only [Option.isNone_some, Bool.false_eq_true, if_false]
      refine wpAny_bind (wpAny_field hz rfl (x := .bool f) rfl ?_)
      cases f with
      | true =>
        rw [if_neg (show ¬ ((Value.bool true != Value.bool true) = true) from Bool.false_ne_true)]
        exact wpAny_pure (hf s.heap hz (Heap.SameBut.refl _ _))
      | false =>
        rw [if_pos (show (Value.bool false != Value.bool true) = true from rfl)]
        exact wpAny_bind (wpAny_setField_rec hz (by simp) fun h₁ hz₁ hs₁ => wpAny_pure (hf h₁ hz₁ hs₁))
theorem zipG_item {z TI TO i1 i2 l1 l2 : Addr} {k1 k2 : Nat} {xs ys : Array Value} {x y : Value} {Q : Value → Shared → Prop} (D : ZipApart z TI TO i1 i2 l1 l2)
    (hz : ZipA s.heap z TI TO) (hTI : IsPair s.heap TI (.ref i1) (.ref i2)) (hTO : ∃ a b, IsPair s.heap TO a b)
    (h1 : s.heap.IsListIter i1 l1 k1) (h2 : s.heap.IsListIter i2 l2 k2) (hl1 : s.heap.IsList l1 xs) (hl2 : s.heap.IsList l2 ys) (hx : xs[k1]? = some x) (hy : ys[k2]? = some y)
    (hQ : ∀ h', ZipA h' z TI TO → (∃ a b, IsPair h' TO a b) → h'.IsListIter i1 l1 (k1 + 1) → h'.IsListIter i2 l2 (k2 + 1) → IsPair h' s.heap.objs.size x y → h'.objs.size = s.heap.objs.size + 1 →
      (∀ c o, c ≠ z → c ≠ TO → c ≠ i1 → c ≠ i2 → s.heap.get? c = some o → h'.get? c = some o) → Q (.ref s.heap.objs.size) { s with heap := h' }) :
    wpAny (model prog w) A (Builtin.«zip.__next__» ⟨[.ref z], []⟩) (fun fin s' => ∃ v, fin = .done (.ret v) ∧ Q v s') E s := by
  obtain ⟨f0, f, hz, h0⟩ := hz
  obtain ⟨a, b, hTO⟩ := hTO
  show wpAny _ _ (field (.ref z) 2 >>= _) _ _ _
  refine wpAny_bind (wpAny_field hz rfl (x := .bool false) rfl ?_)
  show wpAny _ _ (field (.ref z) 3 >>= _) _ _ _
  refine wpAny_bind (wpAny_field hz rfl (x := .ref TI) rfl ?_)
  refine wpAny_bind (wpAny_seqItems hTI rfl ?_)
  show wpAny _ _ (Builtin.SmallTypes.ownedTupleIsFree (.ref z) >>= _) _ _ _
  refine wpAny_bind (owned_any hz h0 ?_ fun h₁ hz₁ hs₁ => ?_)
  · simp only [if_true]
    refine wpAny_bind (wpAny_rule ?_)
    refine wpAny_bind (wpAny_field hz rfl (x := .ref TO) rfl ?_)
    refine wpAny_bind (wpAny_setField_rec hz (by simp) fun h₁ hz₁ hs₁ => ?_)
    replace hz₁ : ZipG h₁ z TI TO .ellipsis f := hz₁
    refine wpAny_bind ?_
    simp only [List.zipIdx_cons, List.zipIdx_nil, List.forIn_cons, List.forIn_nil]
    refine wpAny_bind (wpAny_bind (wpAny_onRaise ?_))
    show wpAny _ _ (Builtin.SmallTypes.nextOf (.ref i1) >>= _) _ _ _
    refine wpAny_bind (wpAny_nextOf_list_item (h1.extBut hs₁.extBut D.i1z) (hl1.extBut hs₁.extBut D.l1z) hx fun h₂ h1₂ hs₂ => wpAny_pure ?_)
    have hTO₂ : IsPair h₂ TO a b := hs₂.extBut _ _ D.TOi1 (hs₁.extBut _ _ D.TOz hTO)
    refine wpAny_bind (wpAny_seqItems hTO₂ rfl ?_)
    refine wpAny_bind (wpAny_updateSeq_pair hTO₂ fun h₃ hTO₃ hs₃ => ?_)
    replace hTO₃ : IsPair h₃ TO x b := hTO₃
    refine wpAny_bind (wpAny_letGo (wpAny_pure ?_))
    refine wpAny_bind (wpAny_bind (wpAny_onRaise ?_))
    show wpAny _ _ (Builtin.SmallTypes.nextOf (.ref i2) >>= _) _ _ _
    refine wpAny_bind (wpAny_nextOf_list_item (((h2.extBut hs₁.extBut D.i2z).extBut hs₂.extBut D.i12.symm).extBut hs₃.extBut D.TOi2.symm)
      (((hl2.extBut hs₁.extBut D.l2z).extBut hs₂.extBut D.l2i1).extBut hs₃.extBut D.l2TO) hy fun h₄ h2₄ hs₄ => wpAny_pure ?_)
    have hTO₄ : IsPair h₄ TO x b := hs₄.extBut _ _ D.TOi2 hTO₃
    refine wpAny_bind (wpAny_seqItems hTO₄ rfl ?_)
    refine wpAny_bind (wpAny_updateSeq_pair hTO₄ fun h₅ hTO₅ hs₅ => ?_)
    replace hTO₅ : IsPair h₅ TO x y := hTO₅
    refine wpAny_bind (wpAny_letGo (wpAny_pure (wpAny_pure ?_)))
    refine wpAny_bind (wpAny_seqItems hTO₅ rfl ?_)
    refine wpAny_bind (wpAny_newTuple ?_)
    have hsz : h₅.objs.size = s.heap.objs.size := by rw [hs₅.1, hs₄.1, hs₃.1, hs₂.1, hs₁.1]
    have hz₅ : ZipG h₅ z TI TO .ellipsis f := hs₅.extBut _ _ D.TOz.symm (hs₄.extBut _ _ D.i2z.symm (hs₃.extBut _ _ D.TOz.symm (hs₂.extBut _ _ D.i1z.symm hz₁)))
    have hk₅ : ∀ c o, c ≠ z → c ≠ TO → c ≠ i1 → c ≠ i2 → s.heap.get? c = some o → h₅.get? c = some o := fun c o c1 c2 c3 c4 e =>
      hs₅.extBut _ _ c2 (hs₄.extBut _ _ c4 (hs₃.extBut _ _ c2 (hs₂.extBut _ _ c3 (hs₁.extBut _ _ c1 e))))
    have h1₅ : h₅.IsListIter i1 l1 (k1 + 1) := ((h1₂.extBut hs₃.extBut D.TOi1.symm).extBut hs₄.extBut D.i12).extBut hs₅.extBut D.TOi1.symm
    have h2₅ : h₅.IsListIter i2 l2 (k2 + 1) := h2₄.extBut hs₅.extBut D.TOi2.symm
    have hzlt : z < h₅.objs.size := Heap.lt_size hz₅
    show wpAny _ _ (Builtin.SmallTypes.ownedTupleHandOut (.ref z) (.ref h₅.objs.size) >>= _) _ _ _
    refine wpAny_bind ?_
    unfold Builtin.SmallTypes.ownedTupleHandOut
    have hz₆ : ZipG (h₅.push { cls := .type "tuple", data := .seq #[x, y] }) z TI TO .ellipsis f := Heap.get?_push_of_some _ hz₅
    refine wpAny_bind (wpAny_setField_rec hz₆ (by simp) fun h₇ hz₇ hs₇ => ?_)
    replace hz₇ : ZipG h₇ z TI TO (rawInt h₅.objs.size) f := hz₇
    refine wpAny_setField_rec hz₇ (by simp) fun h₈ hz₈ hs₈ => ?_
    replace hz₈ : ZipG h₈ z TI TO (rawInt h₅.objs.size) false := hz₈
    have up : ∀ c o, c ≠ z → h₅.get? c = some o → h₈.get? c = some o := fun c o c1 e => hs₈.extBut _ _ c1 (hs₇.extBut _ _ c1 (Heap.get?_push_of_some _ e))
    have hT₈ : IsPair h₈ h₅.objs.size x y := hs₈.extBut _ _ (Nat.ne_of_gt hzlt) (hs₇.extBut _ _ (Nat.ne_of_gt hzlt) (Heap.get?_push_size _ rfl))
    have hz8 : h₈.objs.size = h₅.objs.size + 1 := by rw [hs₈.1, hs₇.1, Heap.size_push]
    rw [hsz] at hz₈ hT₈ hz8
    refine wpAny_pure ⟨_, rfl, ?_⟩
    show Q (.ref h₅.objs.size) _
    rw [hsz]
    exact hQ h₈ ⟨_, _, hz₈, .inr ⟨_, rfl⟩⟩ ⟨_, _, up _ _ D.TOz hTO₅⟩ (h1₅.at fun o e => up _ o D.i1z e) (h2₅.at fun o e => up _ o D.i2z e) hT₈ hz8 fun c o c1 c2 c3 c4 e => up c o c1 (hk₅ c o c1 c2 c3 c4 e)
  · simp only [Bool.false_eq_true, if_false]
    refine wpAny_bind ?_
    rw [← Array.forIn_toList]
    simp only [List.forIn_cons, List.forIn_nil]
    refine wpAny_bind (wpAny_bind (wpAny_holding ?_))
    show wpAny _ _ (Builtin.SmallTypes.nextOf (.ref i1) >>= _) _ _ _
    refine wpAny_bind (wpAny_nextOf_list_item (s := { s with heap := h₁ }) (h1.extBut hs₁.extBut D.i1z) (hl1.extBut hs₁.extBut D.l1z) hx fun h₂ h1₂ hs₂ => wpAny_pure ?_)
    refine wpAny_pure ?_
    refine wpAny_bind (wpAny_bind (wpAny_holding ?_))
    show wpAny _ _ (Builtin.SmallTypes.nextOf (.ref i2) >>= _) _ _ _
    refine wpAny_bind (wpAny_nextOf_list_item (s := { s with heap := h₂ }) ((h2.extBut hs₁.extBut D.i2z).extBut hs₂.extBut D.i12.symm) ((hl2.extBut hs₁.extBut D.l2z).extBut hs₂.extBut D.l2i1) hy fun h₃ h2₃ hs₃ => wpAny_pure ?_)
    refine wpAny_pure (wpAny_pure ?_)
    show wpAny _ _ (newTuple [x, y] >>= _) _ _ _
    refine wpAny_bind (wpAny_newTuple ?_)
    have hsz : h₃.objs.size = s.heap.objs.size := by rw [hs₃.1, hs₂.1, hs₁.1]
    have hz₃ : ZipG h₃ z TI TO f0 true := hs₃.extBut _ _ D.i2z.symm (hs₂.extBut _ _ D.i1z.symm hz₁)
    have hk : ∀ c o, c ≠ z → c ≠ i1 → c ≠ i2 → s.heap.get? c = some o → h₃.get? c = some o := fun c o c1 c2 c3 e => hs₃.extBut _ _ c3 (hs₂.extBut _ _ c2 (hs₁.extBut _ _ c1 e))
    have h1₃ : h₃.IsListIter i1 l1 (k1 + 1) := h1₂.extBut hs₃.extBut D.i12
    refine wpAny_pure ⟨_, rfl, ?_⟩
    show Q (.ref h₃.objs.size) _
    have hp : IsPair (h₃.push { cls := .type "tuple", data := .seq #[x, y] }) h₃.objs.size x y := Heap.get?_push_size _ rfl
    have hz4 : (h₃.push { cls := .type "tuple", data := .seq #[x, y] }).objs.size = h₃.objs.size + 1 := Heap.size_push ..
    rw [hsz] at hp hz4 ⊢
    exact hQ _ ⟨_, _, Heap.get?_push_of_some _ hz₃, h0⟩ ⟨_, _, Heap.get?_push_of_some _ (hk _ _ D.TOz D.TOi1 D.TOi2 hTO)⟩ (h1₃.at fun o e => Heap.get?_push_of_some _ e) (h2₃.at fun o e => Heap.get?_push_of_some _ e) hp hz4
      fun c o c1 _ c2 c3 e => Heap.get?_push_of_some _ (hk c o c1 c2 c3 e)
theorem zipG_end {z TI TO i1 i2 l1 l2 : Addr} {k1 k2 : Nat} {xs ys : Array Value} {Q : Fin → Shared → Prop} (hh : A.handled = none) (D : ZipApart z TI TO i1 i2 l1 l2)
    (hz : ZipA s.heap z TI TO) (hTI : IsPair s.heap TI (.ref i1) (.ref i2)) (hTO : ∃ a b, IsPair s.heap TO a b)
    (h1 : s.heap.IsListIter i1 l1 k1) (h2 : s.heap.IsListIter i2 l2 k2) (hl1 : s.heap.IsList l1 xs) (hl2 : s.heap.IsList l2 ys) (hend : xs[k1]? = none ∨ ys[k2]? = none)
    (hE : ∀ h' e, (∀ c o, c ≠ z → c ≠ TO → c ≠ i1 → c ≠ i2 → s.heap.get? c = some o → h'.get? c = some o) → (∃ o, h'.get? e = some o ∧ o.cls = .type "StopIteration") → E (.ref e) { s with heap := h' }) :
    wpAny (model prog w) A (Builtin.«zip.__next__» ⟨[.ref z], []⟩) Q E s := by
  obtain ⟨f0, f, hz, h0⟩ := hz
  obtain ⟨a, b, hTO⟩ := hTO
  show wpAny _ _ (field (.ref z) 2 >>= _) _ _ _
  refine wpAny_bind (wpAny_field hz rfl (x := .bool false) rfl ?_)
  show wpAny _ _ (field (.ref z) 3 >>= _) _ _ _
  refine wpAny_bind (wpAny_field hz rfl (x := .ref TI) rfl ?_)
  refine wpAny_bind (wpAny_seqItems hTI rfl ?_)
  show wpAny _ _ (Builtin.SmallTypes.ownedTupleIsFree (.ref z) >>= _) _ _ _
  refine wpAny_bind (owned_any hz h0 ?_ fun h₁ hz₁ hs₁ => ?_)
  · simp only [if_true]
    refine wpAny_bind (wpAny_rule ?_)
    refine wpAny_bind (wpAny_field hz rfl (x := .ref TO) rfl ?_)
    refine wpAny_bind (wpAny_setField_rec hz (by simp) fun h₁ hz₁ hs₁ => ?_)
    replace hz₁ : ZipG h₁ z TI TO .ellipsis f := hz₁
    refine wpAny_bind ?_
    simp only [List.zipIdx_cons, List.zipIdx_nil, List.forIn_cons, List.forIn_nil]
    refine wpAny_bind (wpAny_bind (wpAny_onRaise ?_))
    show wpAny _ _ (Builtin.SmallTypes.nextOf (.ref i1) >>= _) _ _ _
    cases hx : xs[k1]? with
    | none =>
      refine wpAny_bind (wpAny_nextOf_list_end hh (h1.extBut hs₁.extBut D.i1z) (hl1.extBut hs₁.extBut D.l1z) hx fun h₂ e hs₂ he => ?_)
      obtain ⟨oe, hoe, hce⟩ := he
      have hz₂ : ZipG h₂ z TI TO .ellipsis f := hs₂ _ _ D.i1z.symm hz₁
      have hez : e ≠ z := fun x => by subst x; rw [hz₂] at hoe; cases hoe; simp at hce
      refine wpAny_setField_rec hz₂ (by simp) fun h₃ _ hs₃ => hE h₃ e (fun c o c1 _ c3 _ x => hs₃.extBut _ _ c1 (hs₂ _ _ c3 (hs₁.extBut _ _ c1 x))) ⟨oe, hs₃.extBut _ _ hez hoe, hce⟩
    | some x =>
      have hy : ys[k2]? = none := by rcases hend with h | h; rw [hx] at h; cases h; exact h
      refine wpAny_bind (wpAny_nextOf_list_item (h1.extBut hs₁.extBut D.i1z) (hl1.extBut hs₁.extBut D.l1z) hx fun h₂ h1₂ hs₂ => wpAny_pure ?_)
      have hTO₂ : IsPair h₂ TO a b := hs₂.extBut _ _ D.TOi1 (hs₁.extBut _ _ D.TOz hTO)
      refine wpAny_bind (wpAny_seqItems hTO₂ rfl ?_)
      refine wpAny_bind (wpAny_updateSeq_pair hTO₂ fun h₃ hTO₃ hs₃ => ?_)
      refine wpAny_bind (wpAny_letGo (wpAny_pure ?_))
      refine wpAny_bind (wpAny_bind (wpAny_onRaise ?_))
      show wpAny _ _ (Builtin.SmallTypes.nextOf (.ref i2) >>= _) _ _ _
      refine wpAny_bind (wpAny_nextOf_list_end hh (((h2.extBut hs₁.extBut D.i2z).extBut hs₂.extBut D.i12.symm).extBut hs₃.extBut D.TOi2.symm)
        (((hl2.extBut hs₁.extBut D.l2z).extBut hs₂.extBut D.l2i1).extBut hs₃.extBut D.l2TO) hy fun h₄ e hs₄ he => ?_)
      obtain ⟨oe, hoe, hce⟩ := he
      have hz₄ : ZipG h₄ z TI TO .ellipsis f := hs₄ _ _ D.i2z.symm (hs₃.extBut _ _ D.TOz.symm (hs₂.extBut _ _ D.i1z.symm hz₁))
      have hez : e ≠ z := fun x => by subst x; rw [hz₄] at hoe; cases hoe; simp at hce
      refine wpAny_setField_rec hz₄ (by simp) fun h₅ _ hs₅ => hE h₅ e (fun c o c1 c2 c3 c4 x => hs₅.extBut _ _ c1 (hs₄ _ _ c4 (hs₃.extBut _ _ c2 (hs₂.extBut _ _ c3 (hs₁.extBut _ _ c1 x))))) ⟨oe, hs₅.extBut _ _ hez hoe, hce⟩
  · simp only [Bool.false_eq_true, if_false]
    refine wpAny_bind ?_
    rw [← Array.forIn_toList]
    simp only [List.forIn_cons, List.forIn_nil]
    refine wpAny_bind (wpAny_bind (wpAny_holding ?_))
    show wpAny _ _ (Builtin.SmallTypes.nextOf (.ref i1) >>= _) _ _ _
    cases hx : xs[k1]? with
    | none =>
      refine wpAny_bind (wpAny_nextOf_list_end (s := { s with heap := h₁ }) hh (h1.extBut hs₁.extBut D.i1z) (hl1.extBut hs₁.extBut D.l1z) hx fun h₂ e hs₂ he => ?_)
      exact hE h₂ e (fun c o c1 _ c2 _ x => hs₂ _ _ c2 (hs₁.extBut _ _ c1 x)) he
    | some x =>
      have hy : ys[k2]? = none := by rcases hend with h | h; rw [hx] at h; cases h; exact h
      refine wpAny_bind (wpAny_nextOf_list_item (s := { s with heap := h₁ }) (h1.extBut hs₁.extBut D.i1z) (hl1.extBut hs₁.extBut D.l1z) hx fun h₂ h1₂ hs₂ => wpAny_pure ?_)
      refine wpAny_pure ?_
      refine wpAny_bind (wpAny_bind (wpAny_holding ?_))
      show wpAny _ _ (Builtin.SmallTypes.nextOf (.ref i2) >>= _) _ _ _
      refine wpAny_bind (wpAny_nextOf_list_end (s := { s with heap := h₂ }) hh ((h2.extBut hs₁.extBut D.i2z).extBut hs₂.extBut D.i12.symm) ((hl2.extBut hs₁.extBut D.l2z).extBut hs₂.extBut D.l2i1) hy fun h₃ e hs₃ he => ?_)
      exact hE h₃ e (fun c o c1 _ c2 c3 x => hs₃ _ _ c3 (hs₂.extBut _ _ c2 (hs₁.extBut _ _ c1 x))) he
/-- what stands apart in an enumerate of a zip -/
structure EZ (e z TI TO i1 i2 : Addr) : Prop where
  z : e ≠ z
  TI : e ≠ TI
  TO : e ≠ TO
  i1 : e ≠ i1
  i2 : e ≠ i2
theorem enumZip_item {e z TI TO i1 i2 l1 l2 : Addr} {i : Nat} {xs ys : Array Value} {x y old : Value} {Q : Option Value → Shared → Prop} (D : ZipApart z TI TO i1 i2 l1 l2) (N : EZ e z TI TO i1 i2)
    (he : IsEnum s.heap e z i old) (hz : ZipA s.heap z TI TO) (hTI : IsPair s.heap TI (.ref i1) (.ref i2)) (hTO : ∃ a b, IsPair s.heap TO a b)
    (h1 : s.heap.IsListIter i1 l1 i) (h2 : s.heap.IsListIter i2 l2 i) (hl1 : s.heap.IsList l1 xs) (hl2 : s.heap.IsList l2 ys) (hx : xs[i]? = some x) (hy : ys[i]? = some y)
    (hQ : ∀ hm h', IsPair hm s.heap.objs.size x y → hm.objs.size = s.heap.objs.size + 1 → (∀ c o, c ≠ z → c ≠ TO → c ≠ i1 → c ≠ i2 → s.heap.get? c = some o → hm.get? c = some o) →
      IsEnumOut h' e z ((i : Int) + 1) (.ref s.heap.objs.size) (s.heap.objs.size + 1) → ZipA h' z TI TO → IsPair h' TI (.ref i1) (.ref i2) → (∃ a b, IsPair h' TO a b) → h'.IsListIter i1 l1 (i + 1) → h'.IsListIter i2 l2 (i + 1) →
      h'.get? (s.heap.objs.size + 1) = some { cls := .type "tuple", data := .seq #[.int i s.toks, .ref s.heap.objs.size] } → h'.objs.size = s.heap.objs.size + 2 →
      (∀ c o, c ≠ e → hm.get? c = some o → h'.get? c = some o) → Q (some (.ref (s.heap.objs.size + 1))) { s with heap := h', toks := s.toks + 1 }) :
    wpAny (model prog w) A (pyNext (.ref e)) Q E s := by
  obtain ⟨hp, g, d, tk, os⟩ := s
  have hTe : Shared.TypeIs ⟨hp, g, d, tk, os⟩ (.ref e) "enumerate" := ⟨_, he, rfl⟩
  have hel : e < hp.objs.size := Heap.lt_size he
  unfold pyNext
  refine wpAny_bind (wpAny_attempt (wpAny_callSpecial?_slot (name := Str.ofString "__next__") hTe F.slot_enumerate_next
    (wpAny_call_entry F.slot_enumerate_next hTe F.entry_enumerate_next ?_ (F.args_enumerate_next_1 _))))
  show wpAny _ _ (field (.ref e) 2 >>= _) _ _ _
  refine wpAny_bind (wpAny_field he rfl (x := .ref z) rfl ?_)
  have hTz : Shared.TypeIs ⟨hp, g, d, tk, os⟩ (.ref z) "zip" := by obtain ⟨f0, f, q, _⟩ := hz; exact ⟨_, q, rfl⟩
  unfold Builtin.SmallTypes.nextOf
  refine wpAny_bind (wpAny_bind (wpAny_callSpecial?_slot (name := Str.ofString "__next__") hTz F.slot_zip_next
    (wpAny_call_entry F.slot_zip_next hTz F.entry_zip_next
      (zipG_item D hz hTI hTO h1 h2 hl1 hl2 hx hy fun hm z1 t1 j1 j2 p1 sz1 k1 => ?_) (F.args_zip_next_1 _))))
  refine wpAny_pure ?_
  replace k1 : ∀ c o, c ≠ z → c ≠ TO → c ≠ i1 → c ≠ i2 → hp.get? c = some o → hm.get? c = some o := k1
  replace p1 : IsPair hm hp.objs.size x y := p1
  replace sz1 : hm.objs.size = hp.objs.size + 1 := sz1
  have he₁ : IsEnum hm e z i old := k1 _ _ N.z N.TO N.i1 N.i2 he
  have hTI₁ : IsPair hm TI (.ref i1) (.ref i2) := k1 _ _ D.TIz D.TITO D.TIi1 D.TIi2 hTI
  show wpAny _ _ (field (.ref e) 3 >>= _) _ _ ⟨hm, g, d, tk, os⟩
  refine wpAny_bind (wpAny_field he₁ rfl (x := rawInt i) rfl ?_)
  show wpAny _ _ (field (.ref e) 4 >>= _) _ _ ⟨hm, g, d, tk, os⟩
  refine wpAny_bind (wpAny_field he₁ rfl (x := .none) rfl ?_)
  show wpAny _ _ (mkInt i >>= _) _ _ ⟨hm, g, d, tk, os⟩
  refine wpAny_bind (wpAny_mkInt ?_)
  show wpAny _ _ (setField (.ref e) 3 (rawInt ((i : Int) + 1)) >>= _) _ _ ⟨hm, g, d, tk + 1, os⟩
  refine wpAny_bind (wpAny_setField_rec he₁ (by simp) fun h₂ he₂ hs₂ => ?_)
  replace hs₂ : Heap.SameBut e hm h₂ := hs₂
  replace he₂ : IsEnum h₂ e z ((i : Int) + 1) old := he₂
  show wpAny _ _ (setField (.ref e) 4 .none >>= _) _ _ ⟨h₂, g, d, tk + 1, os⟩
  refine wpAny_bind (wpAny_setField_rec he₂ (by simp) fun h₃ he₃ hs₃ => ?_)
  replace hs₃ : Heap.SameBut e h₂ h₃ := hs₃
  replace he₃ : IsEnum h₃ e z ((i : Int) + 1) old := he₃
  show wpAny _ _ (newTuple [.int i tk, .ref hp.objs.size] >>= _) _ _ ⟨h₃, g, d, tk + 1, os⟩
  refine wpAny_bind (wpAny_newTuple ?_)
  have he₄ : IsEnum (h₃.push { cls := .type "tuple", data := .seq #[.int i tk, .ref hp.objs.size] }) e z ((i : Int) + 1) old := Heap.get?_push_of_some _ he₃
  generalize hh₄ : h₃.push { cls := .type "tuple", data := .seq #[.int i tk, .ref hp.objs.size] } = h₄ at he₄
  have hsz : h₃.objs.size = hp.objs.size + 1 := by rw [hs₃.1, hs₂.1, sz1]
  have ht₄ : h₄.get? (hp.objs.size + 1) = some { cls := .type "tuple", data := .seq #[.int i tk, .ref hp.objs.size] } := by rw [← hh₄, ← hsz]; exact Heap.get?_push_size _ rfl
  have hz₄ : h₄.objs.size = hp.objs.size + 2 := by rw [← hh₄, Heap.size_push, hsz]
  have hk₄ : ∀ b o, b ≠ e → hm.get? b = some o → h₄.get? b = some o := fun b o hbe hb => by
    rw [← hh₄]; exact Heap.get?_push_of_some _ (hs₃.extBut b o hbe (hs₂.extBut b o hbe hb))
  show wpAny _ _ (Builtin.SmallTypes.ownedTupleIsFree (.ref e) >>= _) _ _ ⟨h₄, g, d, tk + 1, os⟩
  rw [hsz]
  clear hh₄ he₃ hs₃ he₂ hs₂ he₁ hsz h₃ h₂
  refine wpAny_bind ?_
  unfold Builtin.SmallTypes.ownedTupleIsFree
  refine wpAny_bind (wpAny_field he₄ rfl (x := .none) rfl (wpAny_pure ?_))
  simp only [if_true]
  refine wpAny_bind (wpAny_rule ?_)
  refine wpAny_bind (wpAny_field he₄ rfl (x := old) rfl ?_)
  refine wpAny_bind (wpAny_setField_rec he₄ (by simp) fun h₅ he₅ hs₅ => ?_)
  replace hs₅ : Heap.SameBut e h₄ h₅ := hs₅
  replace he₅ : IsEnum h₅ e z ((i : Int) + 1) (.ref hp.objs.size) := he₅
  show wpAny _ _ (Builtin.SmallTypes.ownedTupleHandOut (.ref e) (.ref (hp.objs.size + 1)) >>= _) _ _ ⟨h₅, g, d, tk + 1, os⟩
  refine wpAny_bind ?_
  unfold Builtin.SmallTypes.ownedTupleHandOut
  refine wpAny_bind (wpAny_setField_rec he₅ (by simp) fun h₆ he₆ hs₆ => ?_)
  replace hs₆ : Heap.SameBut e h₅ h₆ := hs₆
  replace he₆ : IsEnumOut h₆ e z ((i : Int) + 1) (.ref hp.objs.size) (hp.objs.size + 1) := he₆
  refine wpAny_setField_rec he₆ (by simp) fun h₇ he₇ hs₇ => ?_
  replace hs₇ : Heap.SameBut e h₆ h₇ := hs₇
  replace he₇ : IsEnumOut h₇ e z ((i : Int) + 1) (.ref hp.objs.size) (hp.objs.size + 1) := he₇
  have up : ∀ b o, b ≠ e → h₄.get? b = some o → h₇.get? b = some o := fun b o hb q => hs₇.extBut _ _ hb (hs₆.extBut _ _ hb (hs₅.extBut _ _ hb q))
  have up2 : ∀ b o, b ≠ e → hm.get? b = some o → h₇.get? b = some o := fun b o hb q => up b o hb (hk₄ b o hb q)
  have hne : hp.objs.size + 1 ≠ e := Nat.ne_of_gt (Nat.lt_succ_of_lt hel)
  refine wpAny_bind (wpAny_letGo (wpAny_pure ⟨_, rfl, wpAny_pure (hQ hm h₇ p1 sz1 k1 he₇ ?_ (up2 _ _ N.TI.symm hTI₁) ?_ (j1.at fun o q => up2 _ o N.i1.symm q) (j2.at fun o q => up2 _ o N.i2.symm q) (up _ _ hne ht₄) ?_ up2)⟩))
  · obtain ⟨f0, f, q, q'⟩ := z1
    exact ⟨f0, f, up2 _ _ N.z.symm q, q'⟩
  · obtain ⟨a, b, q⟩ := t1
    exact ⟨a, b, up2 _ _ N.TO.symm q⟩
  · rw [hs₇.1, hs₆.1, hs₅.1, hz₄]
theorem enumZip_end {e z TI TO i1 i2 l1 l2 : Addr} {i : Nat} {xs ys : Array Value} {old : Value} {Q : Option Value → Shared → Prop} (hh : A.handled = none) (D : ZipApart z TI TO i1 i2 l1 l2)
    (he : IsEnum s.heap e z i old) (hz : ZipA s.heap z TI TO) (hTI : IsPair s.heap TI (.ref i1) (.ref i2)) (hTO : ∃ a b, IsPair s.heap TO a b)
    (h1 : s.heap.IsListIter i1 l1 i) (h2 : s.heap.IsListIter i2 l2 i) (hl1 : s.heap.IsList l1 xs) (hl2 : s.heap.IsList l2 ys) (hend : xs[i]? = none ∨ ys[i]? = none)
    (hQ : ∀ h', (∀ c o, c ≠ z → c ≠ TO → c ≠ i1 → c ≠ i2 → s.heap.get? c = some o → h'.get? c = some o) → Q none { s with heap := h' }) : wpAny (model prog w) A (pyNext (.ref e)) Q E s := by
  have hTe : s.TypeIs (.ref e) "enumerate" := ⟨_, he, rfl⟩
  have hTz : s.TypeIs (.ref z) "zip" := by obtain ⟨f0, f, q, _⟩ := hz; exact ⟨_, q, rfl⟩
  unfold pyNext
  refine wpAny_bind (wpAny_attempt (wpAny_callSpecial?_slot (name := Str.ofString "__next__") hTe F.slot_enumerate_next
    (wpAny_call_entry F.slot_enumerate_next hTe F.entry_enumerate_next ?_ (F.args_enumerate_next_1 _))))
  show wpAny _ _ (field (.ref e) 2 >>= _) _ _ _
  refine wpAny_bind (wpAny_field he rfl (x := .ref z) rfl ?_)
  unfold Builtin.SmallTypes.nextOf
  refine wpAny_bind (wpAny_bind (wpAny_callSpecial?_slot (name := Str.ofString "__next__") hTz F.slot_zip_next
    (wpAny_call_entry F.slot_zip_next hTz F.entry_zip_next (zipG_end hh D hz hTI hTO h1 h2 hl1 hl2 hend fun h' x hk hx' => ?_) (F.args_zip_next_1 _))))
  obtain ⟨o, ho, hc⟩ := hx'
  refine wpAny_bind (wpAny_isInstance (T := "StopIteration") (b := true) ⟨o, ho, hc⟩ isSubtype_stop ?_)
  exact wpAny_pure (hQ _ hk)
theorem enumG_letGo {elts : List Expr} {x1} {pos : Pos} {e z T : Addr} {i : Int} {x : Value} {Q : Unit → Shared → Prop} (he : IsEnumOut s.heap e z i x T)
    (hQ : ∀ h', IsEnum h' e z i x → Heap.SameBut e s.heap h' → Q () { s with heap := h' }) : wpAny (model prog w) A (letOwnedTupleGo (.Tuple elts x1 pos) (.ref e) (.ref T)) Q E s := wpAny_letOwnedTupleGo_enum he hQ
theorem call_enumerate_zip {z TI TO : Addr} {Q : Value → Shared → Prop} (hz : ZipG s.heap z TI TO .none false)
    (h : ∀ h', IsEnum h' s.heap.objs.size z 0 .none → h'.objs.size = s.heap.objs.size + 1 → (∀ b o, s.heap.get? b = some o → h'.get? b = some o) → Q (.ref s.heap.objs.size) { s with heap := h' }) :
    wpAny (model prog w) A (call (.type "enumerate") [.ref z]) Q E s := by
  have me : Meets (Builtin.«enumerate.__new__» ⟨[.type "enumerate", .ref z], []⟩) (fun _ R s => ZipG s.heap z TI TO .none false ∧
      R (.ok (.ret (.ref s.heap.objs.size))) { s with heap := s.heap.push { cls := .type "enumerate", data := .fields #[.none, .bool false, .ref z, rawInt 0, .none, .none] } }) :=
    .of_wp fun prog w A R s h => by
      obtain ⟨hp, g, d, tk, os⟩ := s
      obtain ⟨hz, h⟩ := h
      have hsub := sub_enumerate
      have hZ : IsZip (Shared.heap ⟨hp, g, d, tk, os⟩) z TI TO .none := hz
      wp_walk using AutoSeq1.wpAny_loadPart' hz
      refine wpAny_stack_any fun st => wpAny_pure ?_
      split
      · rename_i c _ _ _ _ _
        cases (c == Value.type "enumerate")
        · wp_walk using AutoSeq1.wpAny_loadPart' hz, wpAny_pyIter_zip hZ
          exact ⟨_, rfl, h⟩
        · wp_walk using AutoSeq1.wpAny_loadPart' hz, wpAny_pyIter_zip hZ
          exact ⟨_, rfl, h⟩
      · wp_walk using AutoSeq1.wpAny_loadPart' hz, wpAny_pyIter_zip hZ
        exact ⟨_, rfl, h⟩
  refine callType_new F.called_enumerate (by decide) (F.typeCall_enumerate_1 _) (F.newCall_enumerate_1 _) (fun obj => F.args_object_init_2 obj _) F.entry_enumerate_new me ⟨hz, ?_⟩
  have he : IsEnum (s.heap.push { cls := .type "enumerate", data := .fields #[.none, .bool false, .ref z, rawInt 0, .none, .none] }) s.heap.objs.size z 0 .none := Heap.get?_push_size _ rfl
  exact ⟨⟨_, he, rfl⟩, h _ he (Heap.size_push ..) fun b o x => Heap.get?_push_of_some _ x⟩
end
/-- the lists at a and b as they stand at each turn, the items in new pairs, the pairs in new pairs behind their number -/
def Itez (K : PySem.W.Frag) (a b : Addr) : It :=
  ⟨fun i H => ∃ (xs ys : List V) (x y : V), SqL K H a xs ∧ SqL K H b ys ∧ xs[i]? = some x ∧ ys[i]? = some y,
    fun i H v H' => ∃ P T x y, v = .ref T ∧ H P = none ∧ H T = none ∧ P ≠ T ∧ H' = upd (upd H P (.tup [x, y])) T (.tup [.int (i : Nat), .ref P]) ∧ (∀ xs, SqL K H a xs → xs[i]? = some x) ∧ ∀ ys, SqL K H b ys → ys[i]? = some y,
    fun i H => ∃ xs ys : List V, SqL K H a xs ∧ SqL K H b ys ∧ (xs.length ≤ i ∨ ys.length ≤ i)⟩
theorem turn_enumZip {P : Program} {w : World} {K : PySem.W.Frag} {elts : List Expr} {kk : Nat} {tpos : Pos} {a b e z TI TO i1 i2 : Addr} (D : ZipApart z TI TO i1 i2 a b) (N : EZ e z TI TO i1 i2) :
    Turn P w K (.Tuple elts kk tpos) (Itez K a b) [e, z, TI, TO, i1, i2] e (fun i h => (∃ old, IsEnum h e z ((i : Nat) : Int) old) ∧ ZipA h z TI TO ∧ IsPair h TI (.ref i1) (.ref i2) ∧ (∃ x y, IsPair h TO x y) ∧ h.IsListIter i1 a i ∧ h.IsListIter i2 b i) where
  mem := by simp
  obj := fun i h st c hc => by
    obtain ⟨⟨old, he⟩, ⟨f0, f, hz, _⟩, hTI, ⟨x, y, hTO⟩, ⟨o1, e1, _, d1⟩, ⟨o2, e2, _, d2⟩⟩ := st
    have e' : c = e ∨ c = z ∨ c = TI ∨ c = TO ∨ c = i1 ∨ c = i2 := by simpa using hc
    rcases e' with q | q | q | q | q | q
    · rw [q]; exact ⟨_, he, fun v q => nomatch q⟩
    · rw [q]; exact ⟨_, hz, fun v q => nomatch q⟩
    · rw [q]; exact ⟨_, hTI, fun v q => nomatch q⟩
    · rw [q]; exact ⟨_, hTO, fun v q => nomatch q⟩
    · rw [q]; exact ⟨o1, e1, fun v q => by rw [d1] at q; cases q⟩
    · rw [q]; exact ⟨o2, e2, fun v q => by rw [d2] at q; cases q⟩
  keep := fun i h h' st k => by
    obtain ⟨⟨old, he⟩, ⟨f0, f, hz, h0⟩, hTI, ⟨x, y, hTO⟩, h1, h2⟩ := st
    exact ⟨⟨old, k e (by simp) _ he⟩, ⟨f0, f, k z (by simp) _ hz, h0⟩, k TI (by simp) _ hTI, ⟨x, y, k TO (by simp) _ hTO⟩, h1.at fun o q => k i1 (by simp) o q, h2.at fun o q => k i2 (by simp) o q⟩
  item := by
    intro X hP hw hK hc i pins s σ H E I hf st hg
    subst hP hw hK
    obtain ⟨⟨old, he⟩, hz, hTI, hTO, h1, h2⟩ := st
    obtain ⟨xs, ys, x, y, hqx, hqy, hx, hy⟩ := hg
    obtain ⟨its, rv, p, _⟩ := I.list hqx
    obtain ⟨its2, rv2, p2, _⟩ := I.list hqy
    obtain ⟨u, hu, ru⟩ := rv.get hx
    obtain ⟨u2, hu2, ru2⟩ := rv2.get hy
    have lt : ∀ c, c ∈ [e, z, TI, TO, i1, i2] → c < s.heap.objs.size := fun c hcm => by
      have e' : c = e ∨ c = z ∨ c = TI ∨ c = TO ∨ c = i1 ∨ c = i2 := by simpa using hcm
      obtain ⟨f0, f, hz', _⟩ := hz
      obtain ⟨_, _, hTO'⟩ := hTO
      rcases e' with q | q | q | q | q | q
      · rw [q]; exact Heap.lt_size he
      · rw [q]; exact Heap.lt_size hz'
      · rw [q]; exact Heap.lt_size hTI
      · rw [q]; exact Heap.lt_size hTO'
      · rw [q]; obtain ⟨_, e1, _⟩ := h1; exact Heap.lt_size e1
      · rw [q]; obtain ⟨_, e2, _⟩ := h2; exact Heap.lt_size e2
    refine enumZip_item D N he hz hTI hTO h1 h2 p.isList p2.isList (x := u) (y := u2) (by simpa using hu) (by simpa using hu2) fun hm h' pm szm km he' hz' hTI' hTO' h1' h2' hT sz' k' => ?_
    refine ⟨_, rfl, wpAny_letOwnedTupleGo_enum (s := { s with heap := h', toks := s.toks + 1 }) he' fun h'' he'' sb => ?_⟩
    replace sb : Heap.SameBut e h' h'' := sb
    have new1 : ObjOk X.prog X.w (upd H s.heap.objs.size (.tup [x, y])) hm s.heap.objs.size (.tup [x, y]) :=
      ⟨by show 2 ≤ sizeLine; decide, [u, u2], .cons ru (.cons ru2 .nil), ⟨_, pm, rfl, _, rfl⟩⟩
    have I1 : Inv X pins σ (upd H s.heap.objs.size (.tup [x, y])) { s with heap := hm } :=
      I.turnedNew (t' := s.toks) (ch := [e, z, TI, TO, i1, i2]) (fun c o hb q => km c o (fun q' => hb (by simp [q'])) (fun q' => hb (by simp [q'])) (fun q' => hb (by simp [q'])) (fun q' => hb (by simp [q'])) q) hf (Nat.le_refl _) new1
    have hf1 : ∀ c ∈ [e, z, TI, TO, i1, i2], FpOk X pins (upd H s.heap.objs.size (.tup [x, y])) c := fun c hcm => ⟨by rw [upd_ne (Nat.ne_of_lt (lt c hcm))]; exact (hf c hcm).1, (hf c hcm).2⟩
    have hel : e < s.heap.objs.size := lt e (by simp)
    have hT2 : h''.get? (s.heap.objs.size + 1) = some { cls := .type "tuple", data := .seq #[.int i s.toks, .ref s.heap.objs.size] } := (sb.2 _ (Nat.ne_of_gt (Nat.lt_succ_of_lt hel))).trans hT
    have new2 : ObjOk X.prog X.w (upd (upd H s.heap.objs.size (.tup [x, y])) (s.heap.objs.size + 1) (.tup [.int (i : Nat), .ref s.heap.objs.size])) h'' (s.heap.objs.size + 1) (.tup [.int (i : Nat), .ref s.heap.objs.size]) :=
      ⟨by show 2 ≤ sizeLine; decide, [.int i s.toks, .ref s.heap.objs.size], .cons ⟨_, rfl⟩ (.cons rfl .nil), ⟨_, hT2, rfl, _, rfl⟩⟩
    have I2 : Inv X pins σ (upd (upd H s.heap.objs.size (.tup [x, y])) (s.heap.objs.size + 1) (.tup [.int (i : Nat), .ref s.heap.objs.size])) { s with heap := h'', toks := s.toks + 1 } :=
      I1.turnedNew (ch := [e, z, TI, TO, i1, i2]) (fun c o hb q => (sb.2 c (fun z => hb (by simp [z]))).trans (k' c o (fun z => hb (by simp [z])) q)) hf1 (Nat.le_of_eq szm) new2
    refine ⟨.ref (s.heap.objs.size + 1), _, I2, rfl, ⟨_, _, x, y, rfl, I.hok.fresh (Nat.le_refl _), I.hok.fresh (Nat.le_succ _), Nat.ne_of_lt (Nat.lt_succ_self _), rfl, fun l hl => by rw [I.list_inj hl hqx]; exact hx, fun l hl => by rw [I.list_inj hl hqy]; exact hy⟩,
      ⟨⟨.ref s.heap.objs.size, ?_⟩, ?_, (sb.2 _ N.TI.symm).trans hTI', ?_, h1'.at fun o q => (sb.2 _ N.i1.symm).trans q, h2'.at fun o q => (sb.2 _ N.i2.symm).trans q⟩, fun c hcm => ?_⟩
    · have e1 : ((i + 1 : Nat) : Int) = (i : Int) + 1 := by omega
      rw [e1]; exact he''
    · obtain ⟨f0, f, q, q'⟩ := hz'
      exact ⟨f0, f, (sb.2 _ N.z.symm).trans q, q'⟩
    · obtain ⟨a', b', q⟩ := hTO'
      exact ⟨a', b', (sb.2 _ N.TO.symm).trans q⟩
    · rw [upd_ne (Nat.ne_of_lt (Nat.lt_succ_of_lt (lt c hcm))), upd_ne (Nat.ne_of_lt (lt c hcm))]
      exact (hf c hcm).1
  done := by
    intro X hP hw hK hc i pins s σ H E I hf st hg
    subst hP hw hK
    obtain ⟨⟨old, he⟩, hz, hTI, hTO, h1, h2⟩ := st
    obtain ⟨xs, ys, hqx, hqy, hend⟩ := hg
    obtain ⟨its, rv, p, _⟩ := I.list hqx
    obtain ⟨its2, rv2, p2, _⟩ := I.list hqy
    have l1 := rv.length
    have l2 := rv2.length
    have he' : its.toArray[i]? = none ∨ its2.toArray[i]? = none := by
      rcases hend with q | q
      · exact .inl (by simp; omega)
      · exact .inr (by simp; omega)
    exact enumZip_end (I.ok.hd hc) D he hz hTI hTO h1 h2 p.isList p2.isList he' fun h' hk => ⟨rfl, I.turnedL (t' := s.toks) (ch := [e, z, TI, TO, i1, i2]) (fun c o hb q =>
      hk c o (fun q' => hb (by simp [q'])) (fun q' => hb (by simp [q'])) (fun q' => hb (by simp [q'])) (fun q' => hb (by simp [q'])) q) hf⟩
  self := fun A i s Q E st h => let ⟨⟨_, he⟩, _⟩ := st; wpAny_pyIter_enum he h
def iEnumZip (K : PySem.W.Frag) (ta : TA) : TI := fun σ H R => ta σ H fun vs H1 => ∃ a b xs ys, vs = [.ref a, .ref b] ∧ SqL K H1 a xs ∧ SqL K H1 b ys ∧ R (Itez K a b) H1
theorem pi_enumZip {X : Cx} {e e2 : Expr} {ta : TA} {p p2 q pos tpos : Pos} {elts : List Expr} {kk : Nat} (hg : Gl X "enumerate") (hm : X.mg "enumerate" = none) (hg2 : Gl X "zip") (hm2 : X.mg "zip" = none) (ha : PA X [e, e2] ta)
    (na : starEach [.Call (.Name "zip" p2) [e, e2] [] q] X.env = [(false, eval (.Call (.Name "zip" p2) [e, e2] [] q) X.env)] := by rfl)
    (hs : starEach [e, e2] X.env = (false, eval e X.env) :: starEach [e2] X.env := by rfl) (hpl : (backTo q (starEach [e2] X.env)).any (·.1) = false := by rfl) :
    PI X (.Tuple elts kk tpos) (.Call (.Name "enumerate" p) [.Call (.Name "zip" p2) [e, e2] [] q] [] pos) (iEnumZip X.K ta) := by
  refine ⟨fun pins s σ H R I h => ?_⟩
  refine Call_ (ld_blt I hg hm boot_enumerate (PyProof.Rows.callWith_type1 (PyProof.Rows.args_cons ?_ rfl) na rfl))
  refine Call_ (ld_blt I hg2 hm2 PyProof.Rows.boot_zip (PyProof.Rows.callWith_type1 (thn (ha.run q pins s σ H _ I h) fun us s1 ⟨vs, H1, I1, r1, q1⟩ => ?_) hs hpl))
  obtain ⟨a, b, xs, ys, ex, hqx, hqy, q1⟩ := q1
  subst ex
  cases r1 with
  | cons r rr =>
    cases rr with
    | cons r' rr =>
      cases rr
      cases r
      cases r'
      obtain ⟨its, rv, p1, _⟩ := I1.list hqx
      obtain ⟨its2, rv2, p2, _⟩ := I1.list hqy
      have la : a < s1.heap.objs.size := p1.lt
      have lb : b < s1.heap.objs.size := p2.lt
      refine call_zip_2 p1.isList p2.isList fun h' hz hTI hTO h1 h2 hsz hk => PyProof.Rows.args_nil ?_
      refine call_enumerate_zip (s := { s1 with heap := h' }) hz fun h'' he hsz2 hk2 => wpAny_pyIter_enum he ?_
      replace hk2 : ∀ b o, h'.get? b = some o → h''.get? b = some o := hk2
      have I2 : Inv X pins σ H1 { s1 with heap := h'' } := I1.kept (t' := s1.toks) fun b o z => hk2 b o (hk b o z)
      have hE : h'.objs.size = s1.heap.objs.size + 5 := hsz
      have N : EZ h'.objs.size (s1.heap.objs.size + 4) (s1.heap.objs.size + 2) (s1.heap.objs.size + 3) s1.heap.objs.size (s1.heap.objs.size + 1) := by
        rw [hE]
        constructor <;> (intro z; have z' : (_ : Nat) = _ := z; omega)
      refine ⟨h'.objs.size, [h'.objs.size, s1.heap.objs.size + 4, s1.heap.objs.size + 2, s1.heap.objs.size + 3, s1.heap.objs.size, s1.heap.objs.size + 1], _, _, H1, rfl, I2, turn_enumZip (PySem.W.ktu_apart s1.heap.objs.size a b la lb) N,
        ⟨⟨.none, he⟩, ⟨.none, false, hk2 _ _ hz, .inl rfl⟩, hk2 _ _ hTI, ⟨_, _, hk2 _ _ hTO⟩, h1.at fun o q => hk2 _ o q, h2.at fun o q => hk2 _ o q⟩, fun c hcm => ?_, q1⟩
      have e' : c = h'.objs.size ∨ c = s1.heap.objs.size + 4 ∨ c = s1.heap.objs.size + 2 ∨ c = s1.heap.objs.size + 3 ∨ c = s1.heap.objs.size ∨ c = s1.heap.objs.size + 1 := by simpa using hcm
      have hle : s1.heap.objs.size ≤ c := by
        rcases e' with z | z | z | z | z | z
        · rw [z, hE]; exact Nat.le_add_right _ _
        · rw [z]; exact Nat.le_add_right _ _
        · rw [z]; exact Nat.le_add_right _ _
        · rw [z]; exact Nat.le_add_right _ _
        · rw [z]; exact Nat.le_refl _
        · rw [z]; exact Nat.le_add_right _ _
      exact I1.fpOk hle (I1.hok.fresh hle)
end Lm

namespace Lm
open PySem L2 Evl RZ
def rIsN : R2 := fun x y H Q => y = .non ∧ Q (.bl (decide (x = .non))) H
def rNotN : R2 := fun x y H Q => y = .non ∧ Q (.bl (!decide (x = .non))) H
theorem op_isN1 {X : Cx} : OpR X (compareOp .Is) rIsN := op_isN
theorem op_notN1 {X : Cx} : OpR X (compareOp .IsNot) rNotN := op_notN
theorem pi_or {X : Cx} {tg e : Expr} {w w' : TI} (h : PI X tg e w) (h' : PI X tg e w') : PI X tg e (fun σ H R => w σ H R ∨ w' σ H R) := ⟨fun pins s σ H R I q => q.elim (h.run pins s σ H R I) (h'.run pins s σ H R I)⟩
theorem for_EZ {K : PySem.W.Frag} {a b : Addr} {xs ys : List V} {g : TG} {tb : TS} {D : Ends} {σ : L2.St} {H : Hp} (hl : xs.length = ys.length) (Pv : Nat → L2.St → Hp → Prop) (h0 : Pv 0 σ H) (hq : ∀ i σ H, Pv i σ H → SqL K H a xs ∧ SqL K H b ys)
    (hs : ∀ (i : Nat) (x y : V) (B T : Addr) (σ : L2.St) (H : Hp), xs[i]? = some x → ys[i]? = some y → Pv i σ H → H B = none → H T = none → B ≠ T → g (.ref T) σ (upd (upd H B (.tup [x, y])) T (.tup [.int (i : Nat), .ref B])) fun σ2 H2 => tb { D with nx := Pv (i + 1), ct := Pv (i + 1), bk := D.nx } σ2 H2) (hd : ∀ σ H, Pv xs.length σ H → D.nx σ H) :
    ∃ W : Nat → Nat → L2.St → Hp → Prop, (∃ m, W 0 m σ H) ∧ ∀ i m σ H, W i m σ H →
      ((Itez K a b).stop i H ∧ D.nx σ H) ∨ ((Itez K a b).go i H ∧ ∃ N : L2.St → Hp → Prop, (∀ σ' H', N σ' H' → ∃ m', m' < m ∧ W (i + 1) m' σ' H') ∧ ∀ v H', (Itez K a b).yld i H v H' → g v σ H' fun σ2 H2 => tb { D with nx := N, ct := N, bk := D.nx } σ2 H2) := by
  refine ⟨fun i m σ H => m = xs.length - i ∧ i ≤ xs.length ∧ Pv i σ H, ⟨xs.length, rfl, Nat.zero_le _, h0⟩, ?_⟩
  rintro i m σ H ⟨rfl, hi, p⟩
  obtain ⟨qx, qy⟩ := hq i σ H p
  by_cases hlt : i < xs.length
  · have hx : xs[i]? = some xs[i] := List.getElem?_eq_getElem hlt
    have hlt2 : i < ys.length := by omega
    have hy : ys[i]? = some ys[i] := List.getElem?_eq_getElem hlt2
    refine .inr ⟨⟨xs, ys, _, _, qx, qy, hx, hy⟩, Pv (i + 1), fun σ' H' p' => ⟨xs.length - (i + 1), by omega, rfl, hlt, p'⟩, fun v H' y => ?_⟩
    obtain ⟨B, T, x', y', rfl, hB, hT, hBT, rfl, f1, f2⟩ := y
    exact hs i x' y' B T σ H (f1 xs qx) (f2 ys qy) p hB hT hBT
  · have e : i = xs.length := by omega
    subst e
    exact .inl ⟨⟨xs, ys, qx, qy, Or.inl (Nat.le_refl _)⟩, hd σ H p⟩
/-- for i, (x, y) in enumerate(zip(a, b)): -/
theorem s_forEZ {K : PySem.W.Frag} {a b : Addr} {xs ys : List V} {ta : TA} {i j k : Nat} {tu : TS} {D : Ends} {σ : L2.St} {H : Hp} (h : EvA ta σ H [.ref a, .ref b]) (ha : H a = some (.lst xs)) (hb : H b = some (.lst ys)) (hl : xs.length = ys.length) (Pv : Nat → L2.St → Hp → Prop) (h0 : ∀ H1, Ex H H1 → Pv 0 σ H1)
    (hq : ∀ i σ' H', Pv i σ' H' → Ex H H') (hs : ∀ (n : Nat) (x y : V) (σ' : L2.St) (H' H2 : Hp), xs[n]? = some x → ys[n]? = some y → Pv n σ' H' → Ex H' H2 → tu { D with nx := Pv (n + 1), ct := Pv (n + 1), bk := D.nx } (((σ'.set i (some (.int (n : Nat)))).set j (some x)).set k (some y)) H2)
    (hd : ∀ σ' H', Pv xs.length σ' H' → D.nx σ' H') : tFor (iEnumZip K ta) (gTup K 2 (gCons (gName i) (gCons (gTup K 2 (gCons (gName j) (gCons (gName k) gNil))) gNil))) tu D σ H :=
  h H (Ex.refl H) _ fun H1 e => ⟨a, b, xs, ys, rfl, SqL.of (e _ _ ha), SqL.of (e _ _ hb), for_EZ hl Pv (h0 H1 e) (fun i σ' H' p => ⟨SqL.of (hq i σ' H' p _ _ ha), SqL.of (hq i σ' H' p _ _ hb)⟩) (fun n x y B T σ' H' hx hy p hB hT hBT => by
    have h1 : (upd (upd H' B (.tup [x, y])) T (.tup [.int (n : Nat), .ref B])) B = some (.tup [x, y]) := by rw [upd_ne hBT, upd_same]
    have e2 : Ex H' (upd (upd H' B (.tup [x, y])) T (.tup [.int (n : Nat), .ref B])) := Ex.trans (Ex.new hB) (Ex.new (by rw [upd_ne hBT.symm]; exact hT))
    exact ⟨T, _, rfl, SqT.of upd_same, rfl, _, _, rfl, _, _, rfl, ⟨B, _, rfl, SqT.of h1, rfl, _, _, rfl, _, _, rfl, rfl, ⟨rfl, hs n x y σ' H' _ hx hy p e2⟩⟩⟩) hd⟩
theorem q_forEZ {K : PySem.W.Frag} {a b : Addr} {xs ys : List V} {ta : TA} {i j k : Nat} {tu tz : TS} {D : Ends} {σ : L2.St} {H : Hp} (h : EvA ta σ H [.ref a, .ref b]) (ha : H a = some (.lst xs)) (hb : H b = some (.lst ys)) (hl : xs.length = ys.length) (Pv : Nat → L2.St → Hp → Prop) (h0 : ∀ H1, Ex H H1 → Pv 0 σ H1)
    (hq : ∀ i σ' H', Pv i σ' H' → Ex H H') (hs : ∀ (n : Nat) (x y : V) (σ' : L2.St) (H' H2 : Hp), xs[n]? = some x → ys[n]? = some y → Pv n σ' H' → Ex H' H2 → tu { D with nx := Pv (n + 1), ct := Pv (n + 1), bk := tz D } (((σ'.set i (some (.int (n : Nat)))).set j (some x)).set k (some y)) H2)
    (hd : ∀ σ' H', Pv xs.length σ' H' → tz D σ' H') : tSeq (tFor (iEnumZip K ta) (gTup K 2 (gCons (gName i) (gCons (gTup K 2 (gCons (gName j) (gCons (gName k) gNil))) gNil))) tu) tz D σ H := s_forEZ (D := { D with nx := tz D }) h ha hb hl Pv h0 hq hs hd
end Lm

/-! R20: zip of three lists; zip of a list and a tuple. -/
namespace Lm
open PySem PySem.Spec PyProof.Rows L2 Evl RZ
/-- the lists at a, b and c as they stand at each turn, the items in new triples -/
def Itz3 (K : PySem.W.Frag) (a b c : Addr) : It :=
  ⟨fun i H => ∃ (xs ys us : List V) (x y u : V), SqL K H a xs ∧ SqL K H b ys ∧ SqL K H c us ∧ xs[i]? = some x ∧ ys[i]? = some y ∧ us[i]? = some u,
    fun i H v H' => ∃ T x y u, v = .ref T ∧ H T = none ∧ H' = upd H T (.tup [x, y, u]) ∧ (∀ xs, SqL K H a xs → xs[i]? = some x) ∧ (∀ ys, SqL K H b ys → ys[i]? = some y) ∧ ∀ us, SqL K H c us → us[i]? = some u,
    fun i H => ∃ xs ys us : List V, SqL K H a xs ∧ SqL K H b ys ∧ SqL K H c us ∧ i ≤ xs.length ∧ i ≤ ys.length ∧ i ≤ us.length ∧ (i = xs.length ∨ i = ys.length ∨ i = us.length)⟩
theorem turn_zip3 {P : Program} {w : World} {K : PySem.W.Frag} {elts : List Expr} {kk : Nat} {tpos : Pos} {a b c z TI TO i1 i2 i3 : Addr} (S : ZipSep3 z TI TO i1 i2 i3 [i1, a] [i2, b] [i3, c]) (n1 : a ≠ i1) (n2 : b ≠ i2) (n3 : c ≠ i3) :
    Turn P w K (.Tuple elts kk tpos) (Itz3 K a b c) [z, TI, TO, i1, i2, i3] z (fun i h => IsZip h z TI TO .none ∧ IsTupOf3 h TI (.ref i1) (.ref i2) (.ref i3) ∧ (∃ x y u, IsTupOf3 h TO x y u) ∧ h.IsListIter i1 a i ∧ h.IsListIter i2 b i ∧ h.IsListIter i3 c i) where
  mem := by simp
  obj := fun i h st d hd => by
    obtain ⟨hz, hTI, ⟨x, y, u, hTO⟩, ⟨o1, e1, _, d1⟩, ⟨o2, e2, _, d2⟩, ⟨o3, e3, _, d3⟩⟩ := st
    have e' : d = z ∨ d = TI ∨ d = TO ∨ d = i1 ∨ d = i2 ∨ d = i3 := by simpa using hd
    rcases e' with q | q | q | q | q | q
    · rw [q]; exact ⟨_, hz, fun v q => nomatch q⟩
    · rw [q]; exact ⟨_, hTI, fun v q => nomatch q⟩
    · rw [q]; exact ⟨_, hTO, fun v q => nomatch q⟩
    · rw [q]; exact ⟨o1, e1, fun v q => by rw [d1] at q; cases q⟩
    · rw [q]; exact ⟨o2, e2, fun v q => by rw [d2] at q; cases q⟩
    · rw [q]; exact ⟨o3, e3, fun v q => by rw [d3] at q; cases q⟩
  keep := fun i h h' st k => by
    obtain ⟨hz, hTI, ⟨x, y, u, hTO⟩, h1, h2, h3⟩ := st
    exact ⟨k z (by simp) _ hz, k TI (by simp) _ hTI, ⟨x, y, u, k TO (by simp) _ hTO⟩, h1.at fun o q => k i1 (by simp) o q, h2.at fun o q => k i2 (by simp) o q, h3.at fun o q => k i3 (by simp) o q⟩
  item := by
    intro X hP hw hK hc i pins s σ H E I hf st hg
    subst hP hw hK
    obtain ⟨hz, hTI, ⟨x0, y0, u0, hTO⟩, h1, h2, h3⟩ := st
    obtain ⟨xs, ys, us, x, y, u, hqx, hqy, hqu, hx, hy, hu⟩ := hg
    obtain ⟨its, rv, p, _⟩ := I.list hqx
    obtain ⟨its2, rv2, p2, _⟩ := I.list hqy
    obtain ⟨its3, rv3, p3, _⟩ := I.list hqu
    obtain ⟨v1, hv1, ru1⟩ := rv.get hx
    obtain ⟨v2, hv2, ru2⟩ := rv2.get hy
    obtain ⟨v3, hv3, ru3⟩ := rv3.get hu
    have hzl : z < s.heap.objs.size := Heap.lt_size hz
    have hh : X.A.in1.handled = none := I.ok.hd hc
    have b1 : i < its.toArray.size := by simpa using (List.getElem?_eq_some_iff.mp hv1).1
    have b2 : i < its2.toArray.size := by simpa using (List.getElem?_eq_some_iff.mp hv2).1
    have b3 : i < its3.toArray.size := by simpa using (List.getElem?_eq_some_iff.mp hv3).1
    refine wpAny_pyNext_zipD3_item S (Draws.list hh i1 a n1 its.toArray) (Draws.list hh i2 b n2 its2.toArray) (Draws.list hh i3 c n3 its3.toArray) hz hTI hTO ⟨h1, p.isList⟩ ⟨h2, p2.isList⟩ ⟨h3, p3.isList⟩ b1 b2 b3 fun y1 y2 y3 h' tk q1 q2 q3 z' TO' h1' h2' h3' hT hsz hk => ?_
    have e1 : y1 = v1 := by
      have : its[i]? = some y1 := by simpa using q1
      rw [hv1] at this; exact (Option.some.inj this).symm
    have e2 : y2 = v2 := by
      have : its2[i]? = some y2 := by simpa using q2
      rw [hv2] at this; exact (Option.some.inj this).symm
    have e3 : y3 = v3 := by
      have : its3[i]? = some y3 := by simpa using q3
      rw [hv3] at this; exact (Option.some.inj this).symm
    subst e1 e2 e3
    refine ⟨_, rfl, wpAny_letOwnedTupleGo_zip (s := { s with heap := h', toks := tk }) z' fun h'' z'' sb => ?_⟩
    replace sb : Heap.SameBut z h' h'' := sb
    have hT2 : h''.get? s.heap.objs.size = some { cls := .type "tuple", data := .seq #[y1, y2, y3] } := (sb.2 _ (Nat.ne_of_gt hzl)).trans hT
    have new : ObjOk X.prog X.w (upd H s.heap.objs.size (.tup [x, y, u])) h'' s.heap.objs.size (.tup [x, y, u]) :=
      ⟨by show 3 ≤ sizeLine; decide, [y1, y2, y3], .cons ru1 (.cons ru2 (.cons ru3 .nil)), ⟨_, hT2, rfl, _, rfl⟩⟩
    have I1 : Inv X pins σ (upd H s.heap.objs.size (.tup [x, y, u])) { s with heap := h'', toks := tk } :=
      I.turnedNew (ch := [z, TI, TO, i1, i2, i3]) (fun d o hb q => (sb.2 d (fun q' => hb (by simp [q']))).trans (hk d o (fun q' => hb (by simp [q'])) (fun q' => hb (by simp [q'])) (fun q' => hb (by simp [q'])) (fun q' => hb (by simp [q'])) (fun q' => hb (by simp [q'])) q)) hf (Nat.le_refl _) new
    refine ⟨.ref s.heap.objs.size, _, I1, rfl, ⟨_, x, y, u, rfl, I.hok.fresh (Nat.le_refl _), rfl, fun l hl => by rw [I.list_inj hl hqx]; exact hx, fun l hl => by rw [I.list_inj hl hqy]; exact hy, fun l hl => by rw [I.list_inj hl hqu]; exact hu⟩,
      ⟨z'', ?_, ⟨y1, y2, y3, ?_⟩, ?_, ?_, ?_⟩, fun d hdm => ?_⟩
    · exact (sb.2 _ S.TIz).trans (hk _ _ S.TIz S.TITO S.TIi1 S.TIi2 S.TIi3 hTI)
    · exact (sb.2 _ S.TOz).trans TO'
    · exact h1'.1.at fun o q => (sb.2 _ S.zi1.symm).trans q
    · exact h2'.1.at fun o q => (sb.2 _ S.zi2.symm).trans q
    · exact h3'.1.at fun o q => (sb.2 _ S.zi3.symm).trans q
    · have hlt : d < s.heap.objs.size := by
        have e' : d = z ∨ d = TI ∨ d = TO ∨ d = i1 ∨ d = i2 ∨ d = i3 := by simpa using hdm
        rcases e' with q | q | q | q | q | q
        · rw [q]; exact hzl
        · rw [q]; exact Heap.lt_size hTI
        · rw [q]; exact Heap.lt_size hTO
        · rw [q]; obtain ⟨_, e1, _⟩ := h1; exact Heap.lt_size e1
        · rw [q]; obtain ⟨_, e2, _⟩ := h2; exact Heap.lt_size e2
        · rw [q]; obtain ⟨_, e3, _⟩ := h3; exact Heap.lt_size e3
      rw [upd_ne (Nat.ne_of_lt hlt)]
      exact (hf d hdm).1
  done := by
    intro X hP hw hK hc i pins s σ H E I hf st hg
    subst hP hw hK
    obtain ⟨hz, hTI, ⟨x0, y0, u0, hTO⟩, h1, h2, h3⟩ := st
    obtain ⟨xs, ys, us, hqx, hqy, hqu, l1, l2, l3, hend⟩ := hg
    obtain ⟨its, rv, p, _⟩ := I.list hqx
    obtain ⟨its2, rv2, p2, _⟩ := I.list hqy
    obtain ⟨its3, rv3, p3, _⟩ := I.list hqu
    have m1 : its.toArray.size = xs.length := by simpa using rv.length.symm
    have m2 : its2.toArray.size = ys.length := by simpa using rv2.length.symm
    have m3 : its3.toArray.size = us.length := by simpa using rv3.length.symm
    have hh : X.A.in1.handled = none := I.ok.hd hc
    exact wpAny_pyNext_zipD3_end S (Draws.list hh i1 a n1 its.toArray) (Draws.list hh i2 b n2 its2.toArray) (Draws.list hh i3 c n3 its3.toArray) hz hTI hTO ⟨h1, p.isList⟩ ⟨h2, p2.isList⟩ ⟨h3, p3.isList⟩ (by omega) (by omega) (by omega) (by omega)
      fun h' tk hk => ⟨rfl, I.turnedL (t' := tk) (ch := [z, TI, TO, i1, i2, i3]) (fun d o hb q => hk d o (fun q' => hb (by simp [q'])) (fun q' => hb (by simp [q'])) (fun q' => hb (by simp [q'])) (fun q' => hb (by simp [q'])) (fun q' => hb (by simp [q'])) q) hf⟩
  self := fun A i s Q E st h => wpAny_pyIter_zip st.1 h
def iZip3 (K : PySem.W.Frag) (ta : TA) : TI := fun σ H R => ta σ H fun vs H1 => ∃ a b c xs ys us, vs = [.ref a, .ref b, .ref c] ∧ SqL K H1 a xs ∧ SqL K H1 b ys ∧ SqL K H1 c us ∧ R (Itz3 K a b c) H1
theorem pi_zip3 {X : Cx} {e e2 e3 : Expr} {ta : TA} {p pos tpos : Pos} {elts : List Expr} {kk : Nat} (hg : Gl X "zip") (hm : X.mg "zip" = none) (ha : PA X [e, e2, e3] ta)
    (hs : starEach [e, e2, e3] X.env = (false, eval e X.env) :: starEach [e2, e3] X.env := by rfl) (hpl : (backTo pos (starEach [e2, e3] X.env)).any (·.1) = false := by rfl) :
    PI X (.Tuple elts kk tpos) (.Call (.Name "zip" p) [e, e2, e3] [] pos) (iZip3 X.K ta) := by
  refine ⟨fun pins s σ H R I h => ?_⟩
  refine Call_ (ld_blt I hg hm PyProof.Rows.boot_zip (PyProof.Rows.callWith_type1 (thn (ha.run pos pins s σ H _ I h) fun us s1 ⟨vs, H1, I1, r1, q1⟩ => ?_) hs hpl))
  obtain ⟨a, b, c, xs, ys, zs, ex, hqx, hqy, hqz, q⟩ := q1
  subst ex
  cases r1 with
  | cons r rr =>
    cases rr with
    | cons r' rr =>
      cases rr with
      | cons r'' rr =>
        cases rr
        cases r
        cases r'
        cases r''
        obtain ⟨its, rv, p1, _⟩ := I1.list hqx
        obtain ⟨its2, rv2, p2, _⟩ := I1.list hqy
        obtain ⟨its3, rv3, p3, _⟩ := I1.list hqz
        have la : a < s1.heap.objs.size := p1.lt
        have lb : b < s1.heap.objs.size := p2.lt
        have lc : c < s1.heap.objs.size := p3.lt
        refine zip_begins3 (begins_list a its.toArray) (begins_list b its2.toArray) (begins_list c its3.toArray) p1.isList p2.isList p3.isList fun h' hz hTI hTO h1 h2 h3 hsz hk => wpAny_pyIter_zip hz ?_
        have I2 : Inv X pins σ H1 { s1 with heap := h' } := I1.kept (t' := s1.toks) hk
        have one : ∀ (d N : Addr), d < N → ∀ x ∈ [d], x < N := fun d N hd x hx => by rw [List.mem_singleton.mp hx]; exact hd
        refine ⟨s1.heap.objs.size + 5, [s1.heap.objs.size + 5, s1.heap.objs.size + 3, s1.heap.objs.size + 4, s1.heap.objs.size, s1.heap.objs.size + 1, s1.heap.objs.size + 2], _, _, H1, rfl, I2,
          turn_zip3 (zip_sep3 (fp1 := [a]) (fp2 := [b]) (fp3 := [c]) (one _ _ la) (one _ _ lb) (one _ _ lc)) (Nat.ne_of_lt la) (Nat.ne_of_lt (Nat.lt_succ_of_lt lb)) (Nat.ne_of_lt (Nat.lt_succ_of_lt (Nat.lt_succ_of_lt lc))), ⟨hz, hTI, ⟨_, _, _, hTO⟩, ⟨_, h1, rfl, rfl⟩, ⟨_, h2, rfl, rfl⟩, ⟨_, h3, rfl, rfl⟩⟩, fun d hdm => ?_, q⟩
        have e' : d = s1.heap.objs.size + 5 ∨ d = s1.heap.objs.size + 3 ∨ d = s1.heap.objs.size + 4 ∨ d = s1.heap.objs.size ∨ d = s1.heap.objs.size + 1 ∨ d = s1.heap.objs.size + 2 := by simpa using hdm
        have hle : s1.heap.objs.size ≤ d := by
          rcases e' with z | z | z | z | z | z
          · rw [z]; exact Nat.le_add_right _ _
          · rw [z]; exact Nat.le_add_right _ _
          · rw [z]; exact Nat.le_add_right _ _
          · rw [z]; exact Nat.le_refl _
          · rw [z]; exact Nat.le_add_right _ _
          · rw [z]; exact Nat.le_add_right _ _
        exact I1.fpOk hle (I1.hok.fresh hle)
/-! ### a list and a tuple -/
def ItzM (K : PySem.W.Frag) (a b : Addr) : It :=
  ⟨fun i H => ∃ (xs ys : List V) (x y : V), SqL K H a xs ∧ SqT K H b ys ∧ xs[i]? = some x ∧ ys[i]? = some y,
    fun i H v H' => ∃ T x y, v = .ref T ∧ H T = none ∧ H' = upd H T (.tup [x, y]) ∧ (∀ xs, SqL K H a xs → xs[i]? = some x) ∧ ∀ ys, SqT K H b ys → ys[i]? = some y,
    fun i H => ∃ xs ys : List V, SqL K H a xs ∧ SqT K H b ys ∧ i ≤ xs.length ∧ i ≤ ys.length ∧ (i = xs.length ∨ i = ys.length)⟩
theorem turn_zipM {P : Program} {w : World} {K : PySem.W.Frag} {elts : List Expr} {kk : Nat} {tpos : Pos} {a b z TI TO i1 i2 : Addr} (S : ZipSep2 z TI TO i1 i2 [i1, a] [i2, b]) (n1 : a ≠ i1) (n2 : b ≠ i2) :
    Turn P w K (.Tuple elts kk tpos) (ItzM K a b) [z, TI, TO, i1, i2] z (fun i h => IsZip h z TI TO .none ∧ IsTupOf2 h TI (.ref i1) (.ref i2) ∧ (∃ x y, IsTupOf2 h TO x y) ∧ h.IsListIter i1 a i ∧ h.IsTupleIter i2 b i) where
  mem := by simp
  obj := fun i h st d hd => by
    obtain ⟨hz, hTI, ⟨x, y, hTO⟩, ⟨o1, e1, _, d1⟩, ⟨o2, e2, _, d2⟩⟩ := st
    have e' : d = z ∨ d = TI ∨ d = TO ∨ d = i1 ∨ d = i2 := by simpa using hd
    rcases e' with q | q | q | q | q
    · rw [q]; exact ⟨_, hz, fun v q => nomatch q⟩
    · rw [q]; exact ⟨_, hTI, fun v q => nomatch q⟩
    · rw [q]; exact ⟨_, hTO, fun v q => nomatch q⟩
    · rw [q]; exact ⟨o1, e1, fun v q => by rw [d1] at q; cases q⟩
    · rw [q]; exact ⟨o2, e2, fun v q => by rw [d2] at q; cases q⟩
  keep := fun i h h' st k => by
    obtain ⟨hz, hTI, ⟨x, y, hTO⟩, h1, h2⟩ := st
    exact ⟨k z (by simp) _ hz, k TI (by simp) _ hTI, ⟨x, y, k TO (by simp) _ hTO⟩, h1.at fun o q => k i1 (by simp) o q, h2.at fun o q => k i2 (by simp) o q⟩
  item := by
    intro X hP hw hK hc i pins s σ H E I hf st hg
    subst hP hw hK
    obtain ⟨hz, hTI, ⟨x0, y0, hTO⟩, h1, h2⟩ := st
    obtain ⟨xs, ys, x, y, hqx, hqy, hx, hy⟩ := hg
    obtain ⟨its, rv, p, _⟩ := I.list hqx
    obtain ⟨its2, rv2, p2, _⟩ := I.tuple hqy
    obtain ⟨v1, hv1, ru1⟩ := rv.get hx
    obtain ⟨v2, hv2, ru2⟩ := rv2.get hy
    have hzl : z < s.heap.objs.size := Heap.lt_size hz
    have hh : X.A.in1.handled = none := I.ok.hd hc
    have b1 : i < its.toArray.size := by simpa using (List.getElem?_eq_some_iff.mp hv1).1
    have b2 : i < its2.toArray.size := by simpa using (List.getElem?_eq_some_iff.mp hv2).1
    refine wpAny_pyNext_zipD2_item S (Draws.list hh i1 a n1 its.toArray) (Draws.tuple hh i2 b n2 its2.toArray) hz hTI hTO ⟨h1, p.isList⟩ ⟨h2, p2⟩ b1 b2 fun y1 y2 h' tk q1 q2 z' TO' h1' h2' hT hsz hk => ?_
    have e1 : y1 = v1 := by
      have : its[i]? = some y1 := by simpa using q1
      rw [hv1] at this; exact (Option.some.inj this).symm
    have e2 : y2 = v2 := by
      have : its2[i]? = some y2 := by simpa using q2
      rw [hv2] at this; exact (Option.some.inj this).symm
    subst e1 e2
    refine ⟨_, rfl, wpAny_letOwnedTupleGo_zip (s := { s with heap := h', toks := tk }) z' fun h'' z'' sb => ?_⟩
    replace sb : Heap.SameBut z h' h'' := sb
    have hT2 : h''.get? s.heap.objs.size = some { cls := .type "tuple", data := .seq #[y1, y2] } := (sb.2 _ (Nat.ne_of_gt hzl)).trans hT
    have new : ObjOk X.prog X.w (upd H s.heap.objs.size (.tup [x, y])) h'' s.heap.objs.size (.tup [x, y]) :=
      ⟨by show 2 ≤ sizeLine; decide, [y1, y2], .cons ru1 (.cons ru2 .nil), ⟨_, hT2, rfl, _, rfl⟩⟩
    have I1 : Inv X pins σ (upd H s.heap.objs.size (.tup [x, y])) { s with heap := h'', toks := tk } :=
      I.turnedNew (ch := [z, TI, TO, i1, i2]) (fun d o hb q => (sb.2 d (fun q' => hb (by simp [q']))).trans (hk d o (fun q' => hb (by simp [q'])) (fun q' => hb (by simp [q'])) (fun q' => hb (by simp [q'])) (fun q' => hb (by simp [q'])) q)) hf (Nat.le_refl _) new
    refine ⟨.ref s.heap.objs.size, _, I1, rfl, ⟨_, x, y, rfl, I.hok.fresh (Nat.le_refl _), rfl, fun l hl => by rw [I.list_inj hl hqx]; exact hx, fun l hl => by rw [I.tuple_inj hl hqy]; exact hy⟩,
      ⟨z'', ?_, ⟨y1, y2, ?_⟩, ?_, ?_⟩, fun d hdm => ?_⟩
    · exact (sb.2 _ S.TIz).trans (hk _ _ S.TIz S.TITO S.TIi1 S.TIi2 hTI)
    · exact (sb.2 _ S.TOz).trans TO'
    · exact h1'.1.at fun o q => (sb.2 _ S.zi1.symm).trans q
    · exact h2'.1.at fun o q => (sb.2 _ S.zi2.symm).trans q
    · have hlt : d < s.heap.objs.size := by
        have e' : d = z ∨ d = TI ∨ d = TO ∨ d = i1 ∨ d = i2 := by simpa using hdm
        rcases e' with q | q | q | q | q
        · rw [q]; exact hzl
        · rw [q]; exact Heap.lt_size hTI
        · rw [q]; exact Heap.lt_size hTO
        · rw [q]; obtain ⟨_, e1, _⟩ := h1; exact Heap.lt_size e1
        · rw [q]; obtain ⟨_, e2, _⟩ := h2; exact Heap.lt_size e2
      rw [upd_ne (Nat.ne_of_lt hlt)]
      exact (hf d hdm).1
  done := by
    intro X hP hw hK hc i pins s σ H E I hf st hg
    subst hP hw hK
    obtain ⟨hz, hTI, ⟨x0, y0, hTO⟩, h1, h2⟩ := st
    obtain ⟨xs, ys, hqx, hqy, l1, l2, hend⟩ := hg
    obtain ⟨its, rv, p, _⟩ := I.list hqx
    obtain ⟨its2, rv2, p2, _⟩ := I.tuple hqy
    have m1 : its.toArray.size = xs.length := by simpa using rv.length.symm
    have m2 : its2.toArray.size = ys.length := by simpa using rv2.length.symm
    have hh : X.A.in1.handled = none := I.ok.hd hc
    exact wpAny_pyNext_zipD2_end S (Draws.list hh i1 a n1 its.toArray) (Draws.tuple hh i2 b n2 its2.toArray) hz hTI hTO ⟨h1, p.isList⟩ ⟨h2, p2⟩ (by omega) (by omega) (by omega)
      fun h' tk hk => ⟨rfl, I.turnedL (t' := tk) (ch := [z, TI, TO, i1, i2]) (fun d o hb q => hk d o (fun q' => hb (by simp [q'])) (fun q' => hb (by simp [q'])) (fun q' => hb (by simp [q'])) (fun q' => hb (by simp [q'])) q) hf⟩
  self := fun A i s Q E st h => wpAny_pyIter_zip st.1 h
def iZipM (K : PySem.W.Frag) (ta : TA) : TI := fun σ H R => ta σ H fun vs H1 => ∃ a b xs ys, vs = [.ref a, .ref b] ∧ SqL K H1 a xs ∧ SqT K H1 b ys ∧ R (ItzM K a b) H1
theorem pi_zipM {X : Cx} {e e2 : Expr} {ta : TA} {p pos tpos : Pos} {elts : List Expr} {kk : Nat} (hg : Gl X "zip") (hm : X.mg "zip" = none) (ha : PA X [e, e2] ta)
    (hs : starEach [e, e2] X.env = (false, eval e X.env) :: starEach [e2] X.env := by rfl) (hpl : (backTo pos (starEach [e2] X.env)).any (·.1) = false := by rfl) :
    PI X (.Tuple elts kk tpos) (.Call (.Name "zip" p) [e, e2] [] pos) (iZipM X.K ta) := by
  refine ⟨fun pins s σ H R I h => ?_⟩
  refine Call_ (ld_blt I hg hm PyProof.Rows.boot_zip (PyProof.Rows.callWith_type1 (thn (ha.run pos pins s σ H _ I h) fun us s1 ⟨vs, H1, I1, r1, q1⟩ => ?_) hs hpl))
  obtain ⟨a, b, xs, ys, ex, hqx, hqy, q⟩ := q1
  subst ex
  cases r1 with
  | cons r rr =>
    cases rr with
    | cons r' rr =>
      cases rr
      cases r
      cases r'
      obtain ⟨its, rv, p1, _⟩ := I1.list hqx
      obtain ⟨its2, rv2, p2, _⟩ := I1.tuple hqy
      obtain ⟨o2, ho2, _⟩ := id p2
      have la : a < s1.heap.objs.size := p1.lt
      have lb : b < s1.heap.objs.size := Heap.lt_size ho2
      refine zip_begins2 (begins_list a its.toArray) (begins_tuple b its2.toArray) p1.isList p2 fun h' hz hTI hTO h1 h2 hsz hk => wpAny_pyIter_zip hz ?_
      have I2 : Inv X pins σ H1 { s1 with heap := h' } := I1.kept (t' := s1.toks) hk
      have one : ∀ (d N : Addr), d < N → ∀ x ∈ [d], x < N := fun d N hd x hx => by rw [List.mem_singleton.mp hx]; exact hd
      refine ⟨s1.heap.objs.size + 4, [s1.heap.objs.size + 4, s1.heap.objs.size + 2, s1.heap.objs.size + 3, s1.heap.objs.size, s1.heap.objs.size + 1], _, _, H1, rfl, I2,
        turn_zipM (zip_sep2 (fp1 := [a]) (fp2 := [b]) (one _ _ la) (one _ _ lb)) (Nat.ne_of_lt la) (Nat.ne_of_lt (Nat.lt_succ_of_lt lb)), ⟨hz, hTI, ⟨_, _, hTO⟩, ⟨_, h1, rfl, rfl⟩, ⟨_, h2, rfl, rfl⟩⟩, fun d hdm => ?_, q⟩
      have e' : d = s1.heap.objs.size + 4 ∨ d = s1.heap.objs.size + 2 ∨ d = s1.heap.objs.size + 3 ∨ d = s1.heap.objs.size ∨ d = s1.heap.objs.size + 1 := by simpa using hdm
      have hle : s1.heap.objs.size ≤ d := by
        rcases e' with z | z | z | z | z
        · rw [z]; exact Nat.le_add_right _ _
        · rw [z]; exact Nat.le_add_right _ _
        · rw [z]; exact Nat.le_add_right _ _
        · rw [z]; exact Nat.le_refl _
        · rw [z]; exact Nat.le_add_right _ _
      exact I1.fpOk hle (I1.hok.fresh hle)
end Lm

namespace Lm
open PySem L2 LamX NdefX PySem.Spec PyProof.Rows
/-! ### a def within a def, handed to another def that calls it -/
theorem CellsAt.un {cl : List (Str × Addr)} {fr : List Str} {ws : List (Option V)} {h h1 : Heap} {H H1 : Hp} {fs : List Addr} (C : CellsAt cl fr ws h H) (un : Un fs [] H H1 h h1) : CellsAt cl fr ws h1 H1 := by
  have kp : ∀ y c, cl.lookup y = some c → ∀ v, h.IsCell c v → h1.IsCell c v := fun y c e v ⟨o, ho, hd⟩ => by
    obtain ⟨sl, q⟩ := un.any ho (C.all y c e).1 (by simp)
    exact ⟨_, q, hd⟩
  refine ⟨C.len, fun y c e => ?_, C.inj, fun i y e => ?_⟩
  · obtain ⟨n, v, z⟩ := C.all y c e
    obtain ⟨o, ho, hd⟩ := id z
    exact ⟨un.free c o ho n (by simp), v, kp y c e v z⟩
  · obtain ⟨c, hc, hv⟩ := C.has i y e
    refine ⟨c, hc, fun v ev => ?_⟩
    obtain ⟨u, r, z⟩ := hv v ev
    exact ⟨u, r, kp y c hc _ z⟩
/-- f(..), f a parameter that holds the function F made by a caller; ws: what its cells hold -/
def tCallH (F : NF) (f : Addr) (ws : List (Option V)) (i : Nat) (sp : List (Option V) → Sp) (E : XK) (t : TA) : TE := fun σ H Q => σ[i]? = some (some (.ref f)) ∧ H f = some (FnO f F) ∧
  t σ H fun vs H1 => H1 f = some (FnO f F) ∧ H1 F.c = some (CodeO F.c F.qual) ∧ sp ws vs H1 Q E
theorem pe_callh {Z : Cx} {CX : CXT} {F : NF} {ps fr : List Str} {ws : List (Option V)} {i k : Nat} {x : Str} {f : Addr} {sp : List (Option V) → Sp} {E : XK} {t : TA} {e : Expr} {es : List Expr} {p pos : Pos}
    (Fn : NOk Z.prog Z.w Z.K Z.mg Z.base CX k f F ps fr sp) (C : ∀ pins σ H s, Inv Z pins σ H s → CellsAt F.cl fr ws s.heap H) (hr : Room k Z.A) (hx : Passes CX Z E) (hN : Z.N[i]? = some x) (hv : Vis Z.env.scope x) (ha : PA Z (e :: es) t)
    (hd : (x == ("__debug__" : Str)) = false := by decide) (hcd : (x == ("__classdict__" : Str)) = false := by decide)
    (he : starEach (e :: es) Z.env = (false, eval e Z.env) :: starEach es Z.env := by rfl) (hpl : (backTo pos (starEach es Z.env)).any (·.1) = false := by rfl) :
    PE Z (.Call (.Name x p) (e :: es) [] pos) (tCallH F f ws i sp E t) := by
  refine ⟨fun pins s σ H Q I h => ?_⟩
  obtain ⟨hs, hf, ht⟩ := h
  refine wpAny_Call_Name_kw (thn ((pe_var (pos := p) hN hv hd hcd).run pins s σ H (fun v H1 => v = .ref f ∧ H1 = H) I ⟨.ref f, hs, rfl, rfl⟩) fun u s1 ⟨v, H1, I1, r1, q1⟩ => ?_)
  obtain ⟨ev, eH⟩ := q1
  subst ev
  rw [eH] at I1
  obtain rfl : u = Value.ref f := r1
  refine PySem.W.callWith_F (first := []) (fnAt_of I1 hf) (thn (ha.run pos pins s1 σ H _ I1 ht) fun us s2 ⟨vs, H2, I2, r, h1, h2, q⟩ => ⟨fnAt_of I2 h1, ?_⟩) he hpl
  show wpAny _ _ (call (.ref f) us) _ _ _
  refine wpAny_call (codeAny_mono (Fn.run Z.A Z.stack s2 H2 us vs _ Q E hr I2.env0 h1 h2 (C _ _ _ _ I2) r q) fun r s' hq => ?_)
  cases r with
  | error e => exact hx pins σ H2 s2 e s' I2 hq
  | ok fl =>
    cases fl with
    | ret u => exact I2.after hq
    | next => exact False.elim hq
    | brk => exact False.elim hq
    | cont => exact False.elim hq
/-- x(e, g), g a function that was made here -/
def tHand (mk : Addr → NF) (js : List Nat) (t : TA) (TT : Addr → Addr → List (Option V) → V → Hp → VK → Prop) : TE := fun σ H Q => t σ H fun vs H1 => ∃ v f c', vs = [v, .ref f] ∧ H1 f = some (FnO f (mk c')) ∧ TT f c' (js.map (slotAt σ)) v H1 Q
/-- the def that got a thing and a function -/
def GivesN (X : Cx) (Ng : List Str) (x : Str) (sg : Scope) (g : Addr) (cdg : Value) (bg : List Stmt) (mk : Addr → NF) (fr : List Str) (k : Nat) (TT : Addr → Addr → List (Option V) → V → Hp → VK → Prop) : Prop :=
  ∀ (f c' : Addr) (ws : List (Option V)) (v : V) (s : Shared) (H : Hp) (Q : VK), Room k (X.A.deeper (envOfC x sg s.heap.objs.size g cdg)) → (∀ pins σ H' s', Inv (cxOf C8.CX0 X.prog X.w X.K X.mg X.base Ng x sg g cdg X.A X.stack s H C8.E0).nox pins σ H' s' → CellsAt (mk c').cl fr ws s'.heap H') →
    H f = some (FnO f (mk c')) → TT f c' ws v H Q → ∃ t, PSs (cxOf C8.CX0 X.prog X.w X.K X.mg X.base Ng x sg g cdg X.A X.stack s H C8.E0).nox bg t ∧ t { nx := fun _ H' => Q .non H', rt := Q } (L2.start Ng [v, .ref f]) H
theorem pe_hand {X : Cx} {mk : Addr → NF} {cl : List (Str × Addr)} {fr : List Str} {js : List Nat} {TT : Addr → Addr → List (Option V) → V → Hp → VK → Prop} {x a1 a2 : Str} {g : Addr} {k : Nat} {pg : Arguments} {bg : List Stmt} {sg : Scope} {dV kV doc pm cdv ct oc : Value} {an od : Option Addr} {osl : Array (Option Value)} {Ng : List Str} {e1 e2 : Expr} {t : TA} {p pos : Pos}
    (hg : Gl X x) (hm : X.mg x = some (.ref g)) (hk : PySem.W.keepIn X.K (.ref g) = true) (lk : X.K.lookup g = some ⟨oc, od, .func (PySem.W.fnOf x x pg bg sg dV kV doc pm an cdv ct), osl⟩) (hcg : PySem.W.codeIn X.K cdv x = true)
    (hb : L2.Binds X.K (PySem.W.fnOf x x pg bg sg dV kV doc pm an cdv ct) [a1, a2] []) (Sg : FnScope Ng [a1, a2] sg) (hG : GivesN X Ng x sg g cdv bg mk fr k TT) (hcl : ∀ c', (mk c').cl = cl) (cp : X.Ok → Caps X cl fr js) (hr : Room (k + 1) X.A) (ha : PA X [e1, e2] t)
    (hdb : (x == ("__debug__" : Str)) = false := by decide) (hst : starEach [e1, e2] X.env = (false, eval e1 X.env) :: starEach [e2] X.env := by rfl) (hpl : (backTo pos (starEach [e2] X.env)).any (·.1) = false := by rfl) :
    PE X (.Call (.Name x p) [e1, e2] [] pos) (tHand mk js t TT) := by
  refine ⟨fun pins s σ H Q I h => ?_⟩
  refine wpAny_Call_Name_kw (ld_glob I hg hm ?_ hdb)
  refine PySem.W.callWith_K (h₀ := X.base) I.ok.mod.kin hk (thn (ha.run pos pins s σ H _ I h) fun us s1 ⟨vs, H1, I1, r, v, f, c', evs, hf, ht⟩ => ⟨I1.kIn, ?_⟩) hst hpl
  subst evs
  have rc : codeAny (model X.prog X.w) X.A (.call (.ref g) ⟨us, []⟩) (CR C8.CX0 X.stack X.prog X.w H1 s1 Q C8.E0) s1 := by
    refine run_ofS (N := Ng) (ps := [a1, a2]) (us := us) (vs := [v, .ref f]) lk hcg Sg hr I1.env0 (by
      have q := hb s1 us I1.kIn (by rw [List.append_nil, ← r.length]; rfl)
      rw [List.append_nil] at q
      exact q) r rfl fun hr' => ?_
    have C0 := cells_of I1 (cp I1.ok)
    obtain ⟨t', ht', hq'⟩ := hG f c' (js.map (slotAt σ)) v s1 H1 Q hr' (fun pins2 σ2 H2 s2 I2 => by rw [hcl]; exact CellsAt.un C0 I2.base) hf ht
    exact ⟨t', ht'.nox, hq'⟩
  refine wpAny_call (codeAny_mono rc fun r s2 hq => ?_)
  cases r with
  | error e => exact (show False from hq).elim
  | ok fl =>
    cases fl with
    | ret u => exact I1.after hq
    | next => exact False.elim hq
    | brk => exact False.elim hq
    | cont => exact False.elim hq
end Lm

namespace Lm
open PySem L2
/-! ### a list of anything against [] -/
def rNeE (K : PySem.W.Frag) : R2 := fun x y H Q => ∃ a b xs, x = .ref a ∧ y = .ref b ∧ SqL K H a xs ∧ SqL K H b [] ∧ Q (.bl (!decide (xs = []))) H
theorem op_neE {X : Cx} (hu : X.A.units + 64 < PySem.cLine) : OpR X (compareOp .NotEq) (rNeE X.K) := by
  intro pins s σ H x y v u Q I rx ry h
  obtain ⟨a, b, xs, rfl, rfl, ha, hb, q⟩ := h
  cases (show v = Value.ref a from rx)
  cases (show u = Value.ref b from ry)
  obtain ⟨us, r1, p1, _⟩ := I.list ha
  obtain ⟨ws, r2, p2, _⟩ := I.list hb
  have hw : ws = [] := List.length_eq_zero_iff.mp r2.length.symm
  subst hw
  by_cases hx : xs = []
  · subst hx
    have hu' : us = [] := List.length_eq_zero_iff.mp r1.length.symm
    subst hu'
    refine PySem.SeqAt.RcNeAt.lists (e := fun _ => true) p1.isList p2.isList rfl (by omega) (fun j h1 h2 => (Nat.not_lt_zero _ h1).elim) _ _ _ _ ?_
    exact ⟨.bl false, H, I, rfl, q⟩
  · have hl : us.length ≠ 0 := fun z => hx (List.length_eq_zero_iff.mp (by rw [r1.length]; exact z))
    refine PySem.SeqAt.RcNeAt.lists_lengths p1.isList p2.isList ?_ (by omega) _ _ _ _ ?_
    · rw [bne_iff_ne]
      simpa using hl
    · refine ⟨.bl true, H, I, rfl, ?_⟩
      rw [decide_eq_false hx] at q
      exact q
end Lm

namespace Lm
open PySem L2 PySem.Spec PyProof.Rows
/-! ### C.m(), m a static method of the class at C -/
structure SMet (K : PySem.W.Frag) (C : Addr) (mc : Value) (m : Str) (p g : Addr) : Prop where
  rd : PySem.W.readsIn K C mc = true
  ga : PySem.W.specialIn K (.ref C) "__getattribute__" = some (some (.builtin "type.__getattribute__"))
  at_ : PySem.W.findCls K (.ref C) mc m = some (.get (.builtin "staticmethod.__get__") (.ref p) .none (.ref C))
  rc : ∃ rest, PySem.W.recIn K p "staticmethod" = some (.ref g :: rest)
  kp : PySem.W.keepIn K (.ref g) = true
def tSMeth (C : Addr) (sp : Sp) (E : XK) (ta : TE) : TE := fun σ H Q => ta σ H fun x H1 => x = .ref C ∧ sp [] H1 Q E
theorem pe_smeth0 {X : Cx} {CX : CXT} {k : Nat} {C p g : Addr} {mc : Value} {m : Str} {sp : Sp} {E : XK} {fd : FuncData} {o : Expr} {pos apos : Pos} {ta : TE} {pl : Sem Bool} (F : FnOk X.prog X.w X.K X.mg X.base CX k g fd [] sp) (c : SMet X.K C mc m p g) (hb : L2.Binds X.K fd [] []) (hr : Room k X.A) (hx : Passes CX X E) (he : PE X o ta)
    (ht : eval (.Call (.Attribute o m apos) [] [] pos) X.env = (do
      let ov ← eval o X.env
      standAt apos.atName
      let (f, first) ← holding [ov] (getMethod ov m pl)
      callWith pos f first (backTo pos (starEach [] X.env)) (backToKw pos (keywordEach [] X.env))) := by rfl) : PE X (.Call (.Attribute o m apos) [] [] pos) (tSMeth C sp E ta) := by
  refine ⟨fun pins s σ H Q I h => ?_⟩
  refine PySem.W.methodCall_KW (pl := pl) (thn (he.run pins s σ H _ I h) fun u s1 ⟨x, H1, I1, rx, ex, q⟩ => ?_) ht
  subst ex
  obtain rfl : u = Value.ref C := rx
  obtain ⟨rest, hp⟩ := c.rc
  refine PySem.W.method_cls I1.kIn c.ga (PySem.W.cls_bind I1.kIn c.rd c.at_ (wpAny_call (PySem.W.sm_get (s := { s1 with toks := s1.toks + 1 }) I1.kIn hp (PySem.W.handed_on rfl ?_))))
  have I2 := I1.tok (t := s1.toks + 1)
  exact PySem.W.callWith_K0 I2.kIn c.kp (run_fn (us := []) (vs := []) F hr hb .nil hx I2 .nil q)
end Lm

namespace Lm
open PySem PySem.Spec PyProof.Rows L2 Evl RZ
/-! ### a tuple and a list -/
def ItzN (K : PySem.W.Frag) (a b : Addr) : It :=
  ⟨fun i H => ∃ (xs ys : List V) (x y : V), SqT K H a xs ∧ SqL K H b ys ∧ xs[i]? = some x ∧ ys[i]? = some y,
    fun i H v H' => ∃ T x y, v = .ref T ∧ H T = none ∧ H' = upd H T (.tup [x, y]) ∧ (∀ xs, SqT K H a xs → xs[i]? = some x) ∧ ∀ ys, SqL K H b ys → ys[i]? = some y,
    fun i H => ∃ xs ys : List V, SqT K H a xs ∧ SqL K H b ys ∧ i ≤ xs.length ∧ i ≤ ys.length ∧ (i = xs.length ∨ i = ys.length)⟩
theorem turn_zipN {P : Program} {w : World} {K : PySem.W.Frag} {elts : List Expr} {kk : Nat} {tpos : Pos} {a b z TI TO i1 i2 : Addr} (S : ZipSep2 z TI TO i1 i2 [i1, a] [i2, b]) (n1 : a ≠ i1) (n2 : b ≠ i2) :
    Turn P w K (.Tuple elts kk tpos) (ItzN K a b) [z, TI, TO, i1, i2] z (fun i h => IsZip h z TI TO .none ∧ IsTupOf2 h TI (.ref i1) (.ref i2) ∧ (∃ x y, IsTupOf2 h TO x y) ∧ h.IsTupleIter i1 a i ∧ h.IsListIter i2 b i) where
  mem := by simp
  obj := fun i h st d hd => by
    obtain ⟨hz, hTI, ⟨x, y, hTO⟩, ⟨o1, e1, _, d1⟩, ⟨o2, e2, _, d2⟩⟩ := st
    have e' : d = z ∨ d = TI ∨ d = TO ∨ d = i1 ∨ d = i2 := by simpa using hd
    rcases e' with q | q | q | q | q
    · rw [q]; exact ⟨_, hz, fun v q => nomatch q⟩
    · rw [q]; exact ⟨_, hTI, fun v q => nomatch q⟩
    · rw [q]; exact ⟨_, hTO, fun v q => nomatch q⟩
    · rw [q]; exact ⟨o1, e1, fun v q => by rw [d1] at q; cases q⟩
    · rw [q]; exact ⟨o2, e2, fun v q => by rw [d2] at q; cases q⟩
  keep := fun i h h' st k => by
    obtain ⟨hz, hTI, ⟨x, y, hTO⟩, h1, h2⟩ := st
    exact ⟨k z (by simp) _ hz, k TI (by simp) _ hTI, ⟨x, y, k TO (by simp) _ hTO⟩, h1.at fun o q => k i1 (by simp) o q, h2.at fun o q => k i2 (by simp) o q⟩
  item := by
    intro X hP hw hK hc i pins s σ H E I hf st hg
    subst hP hw hK
    obtain ⟨hz, hTI, ⟨x0, y0, hTO⟩, h1, h2⟩ := st
    obtain ⟨xs, ys, x, y, hqx, hqy, hx, hy⟩ := hg
    obtain ⟨its, rv, p, _⟩ := I.tuple hqx
    obtain ⟨its2, rv2, p2, _⟩ := I.list hqy
    obtain ⟨v1, hv1, ru1⟩ := rv.get hx
    obtain ⟨v2, hv2, ru2⟩ := rv2.get hy
    have hzl : z < s.heap.objs.size := Heap.lt_size hz
    have hh : X.A.in1.handled = none := I.ok.hd hc
    have b1 : i < its.toArray.size := by simpa using (List.getElem?_eq_some_iff.mp hv1).1
    have b2 : i < its2.toArray.size := by simpa using (List.getElem?_eq_some_iff.mp hv2).1
    refine wpAny_pyNext_zipD2_item S (Draws.tuple hh i1 a n1 its.toArray) (Draws.list hh i2 b n2 its2.toArray) hz hTI hTO ⟨h1, p⟩ ⟨h2, p2.isList⟩ b1 b2 fun y1 y2 h' tk q1 q2 z' TO' h1' h2' hT hsz hk => ?_
    have e1 : y1 = v1 := by
      have : its[i]? = some y1 := by simpa using q1
      rw [hv1] at this; exact (Option.some.inj this).symm
    have e2 : y2 = v2 := by
      have : its2[i]? = some y2 := by simpa using q2
      rw [hv2] at this; exact (Option.some.inj this).symm
    subst e1 e2
    refine ⟨_, rfl, wpAny_letOwnedTupleGo_zip (s := { s with heap := h', toks := tk }) z' fun h'' z'' sb => ?_⟩
    replace sb : Heap.SameBut z h' h'' := sb
    have hT2 : h''.get? s.heap.objs.size = some { cls := .type "tuple", data := .seq #[y1, y2] } := (sb.2 _ (Nat.ne_of_gt hzl)).trans hT
    have new : ObjOk X.prog X.w (upd H s.heap.objs.size (.tup [x, y])) h'' s.heap.objs.size (.tup [x, y]) :=
      ⟨by show 2 ≤ sizeLine; decide, [y1, y2], .cons ru1 (.cons ru2 .nil), ⟨_, hT2, rfl, _, rfl⟩⟩
    have I1 : Inv X pins σ (upd H s.heap.objs.size (.tup [x, y])) { s with heap := h'', toks := tk } :=
      I.turnedNew (ch := [z, TI, TO, i1, i2]) (fun d o hb q => (sb.2 d (fun q' => hb (by simp [q']))).trans (hk d o (fun q' => hb (by simp [q'])) (fun q' => hb (by simp [q'])) (fun q' => hb (by simp [q'])) (fun q' => hb (by simp [q'])) q)) hf (Nat.le_refl _) new
    refine ⟨.ref s.heap.objs.size, _, I1, rfl, ⟨_, x, y, rfl, I.hok.fresh (Nat.le_refl _), rfl, fun l hl => by rw [I.tuple_inj hl hqx]; exact hx, fun l hl => by rw [I.list_inj hl hqy]; exact hy⟩,
      ⟨z'', ?_, ⟨y1, y2, ?_⟩, ?_, ?_⟩, fun d hdm => ?_⟩
    · exact (sb.2 _ S.TIz).trans (hk _ _ S.TIz S.TITO S.TIi1 S.TIi2 hTI)
    · exact (sb.2 _ S.TOz).trans TO'
    · exact h1'.1.at fun o q => (sb.2 _ S.zi1.symm).trans q
    · exact h2'.1.at fun o q => (sb.2 _ S.zi2.symm).trans q
    · have hlt : d < s.heap.objs.size := by
        have e' : d = z ∨ d = TI ∨ d = TO ∨ d = i1 ∨ d = i2 := by simpa using hdm
        rcases e' with q | q | q | q | q
        · rw [q]; exact hzl
        · rw [q]; exact Heap.lt_size hTI
        · rw [q]; exact Heap.lt_size hTO
        · rw [q]; obtain ⟨_, e1, _⟩ := h1; exact Heap.lt_size e1
        · rw [q]; obtain ⟨_, e2, _⟩ := h2; exact Heap.lt_size e2
      rw [upd_ne (Nat.ne_of_lt hlt)]
      exact (hf d hdm).1
  done := by
    intro X hP hw hK hc i pins s σ H E I hf st hg
    subst hP hw hK
    obtain ⟨hz, hTI, ⟨x0, y0, hTO⟩, h1, h2⟩ := st
    obtain ⟨xs, ys, hqx, hqy, l1, l2, hend⟩ := hg
    obtain ⟨its, rv, p, _⟩ := I.tuple hqx
    obtain ⟨its2, rv2, p2, _⟩ := I.list hqy
    have m1 : its.toArray.size = xs.length := by simpa using rv.length.symm
    have m2 : its2.toArray.size = ys.length := by simpa using rv2.length.symm
    have hh : X.A.in1.handled = none := I.ok.hd hc
    exact wpAny_pyNext_zipD2_end S (Draws.tuple hh i1 a n1 its.toArray) (Draws.list hh i2 b n2 its2.toArray) hz hTI hTO ⟨h1, p⟩ ⟨h2, p2.isList⟩ (by omega) (by omega) (by omega)
      fun h' tk hk => ⟨rfl, I.turnedL (t' := tk) (ch := [z, TI, TO, i1, i2]) (fun d o hb q => hk d o (fun q' => hb (by simp [q'])) (fun q' => hb (by simp [q'])) (fun q' => hb (by simp [q'])) (fun q' => hb (by simp [q'])) q) hf⟩
  self := fun A i s Q E st h => wpAny_pyIter_zip st.1 h
def iZipN (K : PySem.W.Frag) (ta : TA) : TI := fun σ H R => ta σ H fun vs H1 => ∃ a b xs ys, vs = [.ref a, .ref b] ∧ SqT K H1 a xs ∧ SqL K H1 b ys ∧ R (ItzN K a b) H1
theorem pi_zipN {X : Cx} {e e2 : Expr} {ta : TA} {p pos tpos : Pos} {elts : List Expr} {kk : Nat} (hg : Gl X "zip") (hm : X.mg "zip" = none) (ha : PA X [e, e2] ta)
    (hs : starEach [e, e2] X.env = (false, eval e X.env) :: starEach [e2] X.env := by rfl) (hpl : (backTo pos (starEach [e2] X.env)).any (·.1) = false := by rfl) :
    PI X (.Tuple elts kk tpos) (.Call (.Name "zip" p) [e, e2] [] pos) (iZipN X.K ta) := by
  refine ⟨fun pins s σ H R I h => ?_⟩
  refine Call_ (ld_blt I hg hm PyProof.Rows.boot_zip (PyProof.Rows.callWith_type1 (thn (ha.run pos pins s σ H _ I h) fun us s1 ⟨vs, H1, I1, r1, q1⟩ => ?_) hs hpl))
  obtain ⟨a, b, xs, ys, ex, hqx, hqy, q⟩ := q1
  subst ex
  cases r1 with
  | cons r rr =>
    cases rr with
    | cons r' rr =>
      cases rr
      cases r
      cases r'
      obtain ⟨its, rv, p1, _⟩ := I1.tuple hqx
      obtain ⟨its2, rv2, p2, _⟩ := I1.list hqy
      obtain ⟨o2, ho2, _⟩ := id p1
      have la : a < s1.heap.objs.size := Heap.lt_size ho2
      have lb : b < s1.heap.objs.size := p2.lt
      refine zip_begins2 (begins_tuple a its.toArray) (begins_list b its2.toArray) p1 p2.isList fun h' hz hTI hTO h1 h2 hsz hk => wpAny_pyIter_zip hz ?_
      have I2 : Inv X pins σ H1 { s1 with heap := h' } := I1.kept (t' := s1.toks) hk
      have one : ∀ (d N : Addr), d < N → ∀ x ∈ [d], x < N := fun d N hd x hx => by rw [List.mem_singleton.mp hx]; exact hd
      refine ⟨s1.heap.objs.size + 4, [s1.heap.objs.size + 4, s1.heap.objs.size + 2, s1.heap.objs.size + 3, s1.heap.objs.size, s1.heap.objs.size + 1], _, _, H1, rfl, I2,
        turn_zipN (zip_sep2 (fp1 := [a]) (fp2 := [b]) (one _ _ la) (one _ _ lb)) (Nat.ne_of_lt la) (Nat.ne_of_lt (Nat.lt_succ_of_lt lb)), ⟨hz, hTI, ⟨_, _, hTO⟩, ⟨_, h1, rfl, rfl⟩, ⟨_, h2, rfl, rfl⟩⟩, fun d hdm => ?_, q⟩
      have e' : d = s1.heap.objs.size + 4 ∨ d = s1.heap.objs.size + 2 ∨ d = s1.heap.objs.size + 3 ∨ d = s1.heap.objs.size ∨ d = s1.heap.objs.size + 1 := by simpa using hdm
      have hle : s1.heap.objs.size ≤ d := by
        rcases e' with z | z | z | z | z
        · rw [z]; exact Nat.le_add_right _ _
        · rw [z]; exact Nat.le_add_right _ _
        · rw [z]; exact Nat.le_add_right _ _
        · rw [z]; exact Nat.le_refl _
        · rw [z]; exact Nat.le_add_right _ _
      exact I1.fpOk hle (I1.hok.fresh hle)
end Lm

namespace Lm
open PySem L2
/-! ### editions as truths over the numbers of the passages -/
def idx (N : Nat) (S : Nat → Bool) : List Nat := (List.range N).filter S
def cnt (S : Nat → Bool) (c : Nat) : Nat := (idx c S).length
def cutsL (N : Nat) (S : Nat → Bool) : List Nat := 0 :: (idx N S).map (· + 1)
def countsL (N : Nat) (S : Nat → Bool) : List Nat := (List.range (N + 1)).map (cnt S)
def ker (S : Nat → Bool) : Nat → Nat
  | 0 => 0
  | c + 1 => if S c = true then c + 1 else ker S c
def no : Str := ⟨#[]⟩
def pick (ws : List Str) (S : Nat → Bool) : List Str := (idx ws.length S).map fun i => ws.getD i no
theorem idx_mem {N : Nat} {S : Nat → Bool} {i : Nat} : i ∈ idx N S ↔ i < N ∧ S i = true := by unfold idx; rw [List.mem_filter, List.mem_range]
theorem idx_sorted (N : Nat) (S : Nat → Bool) : (idx N S).Pairwise (· < ·) := List.Pairwise.filter _ List.pairwise_lt_range
theorem idx_succ (c : Nat) (S : Nat → Bool) : idx (c + 1) S = idx c S ++ (if S c = true then [c] else []) := by
  unfold idx
  rw [List.range_succ, List.filter_append]
  by_cases h : S c = true <;> simp [h]
theorem idx_len (N : Nat) (S : Nat → Bool) : (idx N S).length ≤ N := by
  unfold idx
  exact Nat.le_trans (List.length_filter_le _ _) (by simp)
theorem cnt_zero (S : Nat → Bool) : cnt S 0 = 0 := rfl
theorem cnt_succ (S : Nat → Bool) (c : Nat) : cnt S (c + 1) = cnt S c + if S c = true then 1 else 0 := by
  unfold cnt
  rw [idx_succ, List.length_append]
  by_cases h : S c = true <;> simp [h]
theorem cnt_mono {S : Nat → Bool} {a b : Nat} (h : a ≤ b) : cnt S a ≤ cnt S b := by
  induction b with
  | zero => have : a = 0 := by omega
            subst this; exact Nat.le_refl _
  | succ b ih =>
    rcases Nat.lt_or_ge a (b + 1) with h1 | h1
    · have := ih (by omega)
      rw [cnt_succ]; omega
    · have : a = b + 1 := by omega
      subst this; exact Nat.le_refl _
theorem idx_pre (S : Nat → Bool) (c d : Nat) : ∃ t, idx (c + d) S = idx c S ++ t := by
  unfold idx
  exact ⟨_, by rw [List.range_add, List.filter_append]⟩
theorem cutsL_len (N : Nat) (S : Nat → Bool) : (cutsL N S).length = cnt S N + 1 := by unfold cutsL cnt; simp
theorem cutsL_succ (c : Nat) (S : Nat → Bool) : cutsL (c + 1) S = cutsL c S ++ (if S c = true then [c + 1] else []) := by
  unfold cutsL
  rw [idx_succ]
  by_cases h : S c = true <;> simp [h]
theorem cuts_last (S : Nat → Bool) : ∀ c, (cutsL c S)[cnt S c]? = some (ker S c)
  | 0 => rfl
  | c + 1 => by
    rw [cutsL_succ, cnt_succ]
    by_cases h : S c = true
    · have hl := cutsL_len c S
      rw [if_pos h, if_pos h, List.getElem?_append_right (by omega), hl, Nat.sub_self]
      show some (c + 1) = some (ker S (c + 1))
      unfold ker
      rw [if_pos h]
    · rw [if_neg h, if_neg h, List.append_nil, Nat.add_zero, cuts_last S c]
      show some (ker S c) = some (ker S (c + 1))
      rw [show ker S (c + 1) = ker S c from by rw [ker]; exact if_neg h]
theorem cuts_at {N c : Nat} (S : Nat → Bool) (h : c ≤ N) : (cutsL N S)[cnt S c]? = some (ker S c) := by
  obtain ⟨t, ht⟩ := idx_pre S c (N - c)
  have e : c + (N - c) = N := by omega
  rw [e] at ht
  have e2 : cutsL N S = cutsL c S ++ t.map (· + 1) := by
    unfold cutsL
    rw [ht]
    simp
  rw [e2, List.getElem?_append_left (by rw [cutsL_len]; omega)]
  exact cuts_last S c
theorem cuts_mem {N c : Nat} {S : Nat → Bool} : c + 1 ∈ cutsL N S ↔ c < N ∧ S c = true := by
  unfold cutsL
  simp only [List.mem_cons, List.mem_map]
  constructor
  · rintro (h | ⟨a, ha, e⟩)
    · omega
    · have : a = c := by omega
      subst this; exact idx_mem.mp ha
  · intro h
    exact .inr ⟨c, idx_mem.mpr h, rfl⟩
theorem counts_at' {N c : Nat} (S : Nat → Bool) (h : c ≤ N) : (countsL N S)[c]? = some (cnt S c) := by
  unfold countsL
  rw [List.getElem?_map, List.getElem?_range (by omega)]
  rfl
/-! ### kernels -/
theorem ker_le (S : Nat → Bool) : ∀ c, ker S c ≤ c
  | 0 => Nat.le_refl _
  | c + 1 => by
    unfold ker
    by_cases h : S c = true
    · rw [if_pos h]; exact Nat.le_refl _
    · rw [if_neg h]; exact Nat.le_succ_of_le (ker_le S c)
theorem ker_fix (S : Nat → Bool) : ∀ c, ker S c = c ↔ c = 0 ∨ ∃ d, c = d + 1 ∧ S d = true
  | 0 => by simp [ker]
  | c + 1 => by
    have hl := ker_le S c
    unfold ker
    by_cases h : S c = true
    · simp [h]
    · simp [h]
      omega
theorem ker_idem (S : Nat → Bool) : ∀ c, ker S (ker S c) = ker S c
  | 0 => rfl
  | c + 1 => by
    by_cases h : S c = true
    · have e : ker S (c + 1) = c + 1 := by rw [ker]; exact if_pos h
      rw [e, e]
    · have e : ker S (c + 1) = ker S c := by rw [ker]; exact if_neg h
      rw [e]; exact ker_idem S c
theorem ker_mono1 (S : Nat → Bool) (c : Nat) : ker S c ≤ ker S (c + 1) := by
  rw [ker]
  have := ker_le S c
  split <;> omega
theorem ker_mono (S : Nat → Bool) {a b : Nat} (h : a ≤ b) : ker S a ≤ ker S b := by
  induction b with
  | zero => have : a = 0 := by omega
            subst this; exact Nat.le_refl _
  | succ b ih =>
    rcases Nat.lt_or_ge a (b + 1) with h1 | h1
    · exact Nat.le_trans (ih (by omega)) (ker_mono1 S b)
    · have : a = b + 1 := by omega
      subst this; exact Nat.le_refl _
/-- the greatest cut not above at which the edition stands -/
theorem ker_ge {S : Nat → Bool} {d c : Nat} (h : d ≤ c) (hd : ker S d = d) : d ≤ ker S c := by
  have := ker_mono S h
  omega
theorem ker_or (S T : Nat → Bool) : ∀ c, ker (fun i => S i || T i) c = max (ker S c) (ker T c)
  | 0 => rfl
  | c + 1 => by
    have h1 := ker_le S c
    have h2 := ker_le T c
    have ih := ker_or S T c
    unfold ker
    by_cases a : S c = true <;> by_cases b : T c = true <;> simp [a, b, ih] <;> omega
theorem ker_congr {S T : Nat → Bool} : ∀ c, (∀ i < c, S i = T i) → ker S c = ker T c
  | 0, _ => rfl
  | c + 1, h => by
    unfold ker
    rw [h c (by omega), ker_congr c fun i hi => h i (by omega)]
theorem ker_all : ∀ c, ker (fun _ => true) c = c
  | 0 => rfl
  | c + 1 => by simp [ker]
theorem ker_none : ∀ c, ker (fun _ => false) c = 0
  | 0 => rfl
  | c + 1 => by
    rw [ker]
    simp [ker_none c]
theorem ker_sub {S T : Nat → Bool} {N : Nat} : (∀ i < N, S i = true → T i = true) ↔ ∀ c ≤ N, ker S c ≤ ker T c := by
  constructor
  · intro h c hc
    have h1 : ker T (ker S c) = ker S c := by
      rw [ker_fix]
      rcases (ker_fix S (ker S c)).mp (ker_idem S c) with e | ⟨d, e, hd⟩
      · exact .inl e
      · have := ker_le S c
        exact .inr ⟨d, e, h d (by omega) hd⟩
    exact ker_ge (ker_le S c) h1
  · intro h i hi hS
    have h1 := h (i + 1) (by omega)
    have h2 : ker S (i + 1) = i + 1 := by rw [ker]; exact if_pos hS
    have h3 := ker_le T (i + 1)
    have h4 : ker T (i + 1) = i + 1 := by omega
    rcases (ker_fix T (i + 1)).mp h4 with e | ⟨d, e, hd⟩
    · omega
    · have : d = i := by omega
      subst this; exact hd
/-- so many passages end at a cut at most just if the cut is at least behind them -/
theorem cuts_le_iff {N c n : Nat} {S : Nat → Bool} {x : Nat} (hc : c ≤ N) (h : (cutsL N S)[n]? = some x) : x ≤ c ↔ n ≤ cnt S c := by
  have srt : (cutsL N S).Pairwise (· < ·) := by
    unfold cutsL
    refine List.pairwise_cons.mpr ⟨fun a ha => ?_, ?_⟩
    · obtain ⟨b, _, e⟩ := List.mem_map.mp ha
      omega
    · refine List.Pairwise.map _ (fun a b hab => ?_) (idx_sorted N S)
      omega
  have hk := cuts_at S hc
  obtain ⟨l1, e1⟩ := List.getElem?_eq_some_iff.mp h
  obtain ⟨l2, e2⟩ := List.getElem?_eq_some_iff.mp hk
  have hkl := ker_le S c
  constructor
  · intro hx
    rcases Nat.lt_or_ge (cnt S c) n with hn | hn
    · exfalso
      have h1 := List.pairwise_iff_getElem.mp srt (cnt S c) n l2 l1 hn
      rw [e1, e2] at h1
      -- x stands in S and is at most c, so it is at most the kernel
      cases n with
      | zero => omega
      | succ n =>
        have h2 : x ∈ (idx N S).map (· + 1) := by
          unfold cutsL at h
          have : ((idx N S).map (· + 1))[n]? = some x := h
          exact List.mem_of_getElem? this
        obtain ⟨d, hd, e⟩ := List.mem_map.mp h2
        have e : d + 1 = x := e
        have h3 : ker S x = x := (ker_fix S x).mpr (.inr ⟨d, e.symm, (idx_mem.mp hd).2⟩)
        have := ker_ge hx h3
        omega
    · exact hn
  · intro hn
    rcases Nat.lt_or_ge n (cnt S c) with h1 | h1
    · have h2 := List.pairwise_iff_getElem.mp srt n (cnt S c) l1 l2 h1
      rw [e1, e2] at h2
      omega
    · have : n = cnt S c := by omega
      subst this
      rw [hk] at h
      have := Option.some.inj h
      omega
theorem cnt_cuts {N n : Nat} {S : Nat → Bool} {x : Nat} (h : (cutsL N S)[n]? = some x) : x ≤ N ∧ cnt S x = n := by
  have hn : n ≤ cnt S N := by
    have := (List.getElem?_eq_some_iff.mp h).1
    rw [cutsL_len] at this
    omega
  have hx : x ≤ N := (cuts_le_iff (Nat.le_refl N) h).mpr hn
  refine ⟨hx, ?_⟩
  have h1 := (cuts_le_iff hx h).mp (Nat.le_refl _)
  rcases Nat.lt_or_ge n (cnt S x) with h2 | h2
  · exfalso
    have hk := cuts_at S hx
    have h3 := (cuts_le_iff (c := x) hx (n := n + 1) (x := (cutsL N S).getD (n + 1) 0) ?_).mpr h2
    · have srt : (cutsL N S).Pairwise (· < ·) := by
        unfold cutsL
        refine List.pairwise_cons.mpr ⟨fun a ha => ?_, ?_⟩
        · obtain ⟨b, _, e⟩ := List.mem_map.mp ha
          omega
        · refine List.Pairwise.map _ (fun a b hab => ?_) (idx_sorted N S)
          omega
      have l2 : n + 1 < (cutsL N S).length := by
        have := (List.getElem?_eq_some_iff.mp hk).1
        omega
      obtain ⟨l1, e1⟩ := List.getElem?_eq_some_iff.mp h
      have h4 := List.pairwise_iff_getElem.mp srt n (n + 1) l1 l2 (by omega)
      rw [List.getD_eq_getElem?_getD, List.getElem?_eq_getElem l2] at h3
      simp at h3
      omega
    · have l2 : n + 1 < (cutsL N S).length := by
        have := (List.getElem?_eq_some_iff.mp hk).1
        omega
      rw [List.getD_eq_getElem?_getD, List.getElem?_eq_getElem l2]
      rfl
  · omega
end Lm

namespace Lm
open PySem L2 PySem.Spec PyProof.Rows
/-- l.insert(k, y), 0 <= k <= len(l) -/
def rInsert : V → List V → Hp → VK → Prop := fun x vs H Q => ∃ (l : Addr) (xs : List V) (i : Int) (k : Nat) (y : V), x = .ref l ∧ vs = [.int i, y] ∧ i = (k : Int) ∧ H l = some (.lst xs) ∧ k ≤ xs.length ∧ xs.length < 100000 ∧ Q .non (upd H l (.lst (xs.take k ++ y :: xs.drop k)))
theorem mt_insert {X : Cx} : MtM X "list.insert" rInsert := by
  intro pins s σ H x vs v us Q I rx rv h
  obtain ⟨l, xs, i, k, y, rfl, rfl, hi, hH, hk, hz, q⟩ := h
  cases rx
  obtain ⟨u, w, rfl, ru, rw'⟩ := rv.two
  obtain ⟨t, rfl⟩ := ru
  obtain ⟨z, its, n, r, hl, e⟩ := I.lstM hH
  have hli : its.length = xs.length := hl.symm
  have hk1 : (0 : Int) ≤ i := by omega
  have hk2 : i ≤ 100000 := by omega
  have fit : Builtin.List.listFitsIndex i = true := fitsIndex_both (Int.le_trans (by decide) hk1) (Int.lt_of_le_of_lt hk2 (by decide))
  have sl : (100000 : Nat) ≤ sizeLine := by decide
  refine call_meets F.slot_list_insert ⟨_, e, rfl⟩ F.entry_list_insert (F.args_list_insert_3 _ _ _) (PySem.AutoSeq1.list_insert_list_int_val_1 l its.toArray n i t w (by simp [fit]) (by rw [List.size_toArray]; omega)) ⟨e, ?_⟩
  refine ⟨.non, _, I.lset (its' := its.take k ++ w :: its.drop k) hH e ?_ ((r.take k).append (.cons rw' (r.drop k))) ?_, rfl, q⟩
  · show (its.toArray.extract 0 (if i < 0 then (i + (its.toArray.size : Int)).toNat else min i.toNat its.toArray.size)).push w ++ its.toArray.extract (if i < 0 then (i + (its.toArray.size : Int)).toNat else min i.toNat its.toArray.size) = (its.take k ++ w :: its.drop k).toArray
    have h0 : ¬ i < 0 := by omega
    have h1 : i.toNat = k := by omega
    rw [if_neg h0, h1, List.size_toArray, Nat.min_eq_left (by omega)]
    apply Array.toList_inj.mp
    simp
    rw [List.take_of_length_le (by simp)]
  · rw [List.length_append, List.length_cons, List.length_take, List.length_drop]
    omega
end Lm

namespace Lm
open PySem PySem.Spec PyProof.Rows L2
/-! ### a star among targets: *a, b = xs; a, *b = xs -/
theorem walks_shift {prog : Program} {w : World} {A : Around} {I : Addr} {fp wr : List Addr} {G : Array GenState → Array GenState → Prop} {n : Nat} {Pi : Nat → Value → Prop} {St : Nat → Shared → Prop} (W : WalksS prog w A I fp wr G n Pi St) (k : Nat) (hk : k ≤ n) :
    WalksS prog w A I fp wr G (n - k) (fun i => Pi (k + i)) (fun i => St (k + i)) := by
  have e : k + (n - k) = n := by omega
  exact ⟨W.sub, W.grefl, W.gtrans, fun i => W.frame (k + i), fun i s Q E hi st hQ => W.item (k + i) s Q E (by omega) st hQ, fun s Q E st hQ => W.done s Q E (e ▸ st) hQ, fun i => W.self (k + i)⟩
section
variable {prog : Program} {w : World} {A : Around} {E : Value → Shared → Prop} {s : Shared}
theorem items_of_drop {items : Array Value} {i : Nat} {acc : Array Value} (hi : i ≤ items.size) (h : ItemsOf (fun k v => items[i + k]? = some v) acc (items.size - i)) : acc.toList = items.toList.drop i := by
  obtain ⟨hs, ha⟩ := h
  refine List.ext_getElem? fun k => ?_
  rw [List.getElem?_drop]
  rcases Nat.lt_or_ge k acc.size with q | q
  · have h1 : acc[k]? = some acc[k] := by simp [q]
    have h2 := ha k _ h1
    rw [Array.getElem?_toList, Array.getElem?_toList, h1, h2]
  · rw [List.getElem?_eq_none (by simpa using q), List.getElem?_eq_none (by rw [Array.length_toList]; omega)]
theorem unpackItems_star {t : Addr} {items : Array Value} {n i : Nat} {Q : List Value → Shared → Prop} (hh : A.handled = none) (ht : s.heap.IsList t items) (hz : items.size ≤ sizeLine) (hi : i < n) (hn : n ≤ items.size + 1)
    (hQ : ∀ (h1 : Heap) (tk : Nat), (∀ b o, s.heap.get? b = some o → h1.get? b = some o) →
      Q (items.toList.take i ++ [.ref h1.objs.size] ++ (items.toList.drop i).drop (items.size - (n - 1))) { s with heap := h1.push { cls := .type "list", data := .seq ((items.toList.drop i).take (items.size - (n - 1))).toArray }, toks := tk }) : wpAny (model prog w) A (unpackItems (.ref t) n (some i)) Q E s := by
  have hlt : t ≠ s.heap.objs.size := by obtain ⟨o, ho, _⟩ := ht; exact Nat.ne_of_lt (Heap.lt_size ho)
  have hta : t < s.heap.objs.size := by obtain ⟨o, ho, _⟩ := ht; exact Heap.lt_size ho
  unfold unpackItems
  refine wpAny_bind ?_
  unfold notIterableAtAll
  refine wpAny_bind (wpAny_specialOf ht.typeIs PySem.F.slot_list_iter.lookup ?_)
  refine wpAny_pure ?_
  simp only [Bool.false_eq_true, if_false]
  refine wpAny_bind (wpAny_holding (wpAny_pyIter_list ht ?_))
  refine wpAny_bind (wpAny_holding (draw_list hlt i 0 _ _ ⟨_, Heap.get?_push_size _ rfl, rfl, rfl⟩ (isList_push ht) (by omega) fun h₁ hit₁ hs₁ => ?_))
  have hfst : List.take i (List.drop 0 items.toList) = items.toList.take i := by rw [List.drop_zero]
  rw [hfst]
  rw [if_neg (by rw [List.length_take, Array.length_toList]; omega)]
  have ht₁ : h₁.IsList t items := isList_ext (isList_push ht) hs₁.extBut hlt
  have hit : h₁.IsListIter s.heap.objs.size t (i + 0) := by
    have e : 0 + i = i + 0 := by omega
    rw [← e]; exact hit₁
  have hsz : s.heap.objs.size < h₁.objs.size := by obtain ⟨o, ho, _⟩ := hit; exact Heap.lt_size ho
  refine wpAny_bind (wpAny_holding (wpAny_collect_iter (T := "list_iterator") (.inr (.inr (.inl rfl))) (walks_shift (Walks.list (prog := prog) (w := w) (A := A.in1) (by simpa using hh) s.heap.objs.size t hlt items).toS i (by omega)) (fun k s2 h => ?_) ⟨hit, ht₁⟩ (fun b hb => ?_) (by simp) (fun s2 acc hm hacc => ?_) (by omega)))
  · obtain ⟨⟨o, ho, hc, _⟩, _⟩ := h
    exact ⟨o, ho, hc⟩
  · simp only [List.mem_cons, List.not_mem_nil, or_false] at hb
    rcases hb with rfl | rfl
    · exact hsz
    · exact Nat.lt_trans hta hsz
  · have hrest := items_of_drop (by omega) hacc
    rw [hrest]
    rw [if_neg (by rw [List.length_drop, Array.length_toList]; omega)]
    have hmid : (List.drop i items.toList).length - (n - 1 - i) = items.size - (n - 1) := by rw [List.length_drop, Array.length_toList]; omega
    rw [hmid]
    unfold newList
    refine wpAny_bind (wpAny_newObj_type ?_ (by show _ ≤ sizeLine; simp; omega))
    refine wpAny_pure ?_
    have old : ∀ b o, s.heap.get? b = some o → s2.heap.get? b = some o := fun b o e => by
      have hb : b ≠ s.heap.objs.size := Nat.ne_of_lt (Heap.lt_size e)
      exact hm.heap b o (by simpa using hb) (hs₁.extBut b o hb (Heap.get?_push_of_some _ e))
    have e2 : ({ s2 with heap := s2.heap.push { cls := .type "list", data := .seq ((items.toList.drop i).take (items.size - (n - 1))).toArray } } : Shared) = { s with heap := s2.heap.push { cls := .type "list", data := .seq ((items.toList.drop i).take (items.size - (n - 1))).toArray }, toks := s2.toks } := by
      have g1 := hm.gens
      have g2 := hm.drawn
      have g3 := hm.os
      cases s2
      cases s
      simp at g1 g2 g3
      simp [g1, g2, g3]
    rw [e2]
    exact hQ s2.heap s2.toks old
end
/-- targets of which the one at i has a star -/
def gStar (K : PySem.W.Frag) (n i : Nat) (t : TGs) : TG := fun v σ H Q => ∃ a xs, v = .ref a ∧ SqL K H a xs ∧ n ≤ xs.length + 1 ∧ ∀ L, H L = none → t (xs.take i ++ [.ref L] ++ (xs.drop i).drop (xs.length - (n - 1))) σ (upd H L (.lst ((xs.drop i).take (xs.length - (n - 1))))) Q
theorem pgs_star {X : Cx} {e : Expr} {p : Pos} {es : List Expr} {t : TG} {u : TGs} (h1 : PG X e t) (h2 : PGs X es u)
    (hs : (assignEach (.Starred e p :: es) X.env).map (·.2) = assign e X.env :: (assignEach es X.env).map (·.2) := by rfl) : PGs X (.Starred e p :: es) (gCons t u) := by
  refine ⟨fun pins s σ H vs us Q I r h => ?_⟩
  obtain ⟨v, vr, e1, h⟩ := h
  subst e1
  cases r with
  | cons r rr =>
    rw [hs]
    refine assignInOrder_cons (thn (h1.run pins s σ H _ _ _ I r h) fun _ s1 ⟨σ1, H1, I1, q1⟩ => ?_)
    exact h2.run pins s1 σ1 H1 _ _ Q I1 rr q1
theorem pg_star {X : Cx} {es : List Expr} {k : Nat} {pos : Pos} {t : TGs} {n i : Nat} (hc : X.calm = true) (h : PGs X es t) (hi : i < n)
    (hn : (assignEach es X.env).length = n := by rfl) (hst : (assignEach es X.env).findIdx? (·.1) = some i := by rfl) : PG X (.Tuple es k pos) (gStar X.K n i t) := by
  refine ⟨fun pins s σ H v u Q I r hw => ?_⟩
  obtain ⟨a, xs, e1, hq, hl, hw⟩ := hw
  subst e1
  cases r
  obtain ⟨its, rv, ⟨o, m, e, hcl, _, d⟩, hz⟩ := I.list hq
  have hlen : its.length = xs.length := rv.length.symm
  rw [PyProof.Rows.assign_Tuple]
  refine wpAny_bind (wpAny_standAt ?_)
  unfold unpack
  have hln : (assignEach es X.env).length = n := hn
  rw [hln, hst]
  refine wpAny_bind (wpAny_holding (unpackItems_star (items := its.toArray) (I.ok.hd hc) ⟨o, e, hcl, m, d⟩ (by rw [List.size_toArray, hlen]; exact hz) hi (by simp; omega) fun h1 tk old => ?_))
  have hsz : its.toArray.size = xs.length := by simp [hlen]
  rw [hsz]
  have I0 : Inv X pins σ H { s with heap := h1, toks := tk } := I.kept (t' := tk) old
  have I1 : Inv X pins σ (upd H h1.objs.size (.lst ((xs.drop i).take (xs.length - (n - 1))))) { s with heap := h1.push { cls := .type "list", data := .seq ((its.toArray.toList.drop i).take (xs.length - (n - 1))).toArray }, toks := tk } := by
    refine I0.laid (t' := tk) (fun b o e => Heap.get?_push_of_some _ e) (Nat.le_refl _) ?_
    refine ⟨?_, _, 0, (rv.drop i).take (xs.length - (n - 1)), Heap.get?_push_size _ rfl⟩
    have : ((xs.drop i).take (xs.length - (n - 1))).length ≤ its.length := by rw [List.length_take, List.length_drop]; omega
    exact Nat.le_trans this (by rw [hlen]; exact hz)
  refine h.run pins _ σ _ _ _ Q I1 ?_ (hw h1.objs.size (I0.hok.fresh (Nat.le_refl _)))
  have hr : RelV (.ref h1.objs.size) (.ref h1.objs.size) := rfl
  exact Vals.append (Vals.append (rv.take i) (.cons hr .nil)) ((rv.drop i).drop _)
end Lm

namespace Lm
open PySem PySem.Spec PyProof.Rows L2
/-! ### for i, x in enumerate(xs, start=k) -/
def IteS (K : PySem.W.Frag) (a : Addr) (k0 : Int) : It :=
  ⟨fun i H => ∃ (xs : List V) (x : V), SqL K H a xs ∧ xs[i]? = some x, fun i H v H' => ∃ T x, v = .ref T ∧ H T = none ∧ H' = upd H T (.tup [.int (k0 + (i : Nat)), x]) ∧ ∀ xs, SqL K H a xs → xs[i]? = some x, fun i H => ∃ xs : List V, SqL K H a xs ∧ i = xs.length⟩
theorem turn_enumS {P : Program} {w : World} {K : PySem.W.Frag} {elts : List Expr} {kk : Nat} {tpos : Pos} (k0 : Int) (a e it : Addr) (hai : a ≠ it) (hae : a ≠ e) (hei : e ≠ it) :
    Turn P w K (.Tuple elts kk tpos) (IteS K a k0) [e, it] e (fun i h => (∃ old, IsEnum h e it (k0 + (i : Nat)) old) ∧ h.IsListIter it a i) where
  mem := by simp
  obj := fun i h st d hd => by
    obtain ⟨⟨old, he⟩, ⟨o, ho, hc, hdt⟩⟩ := st
    rcases (by simpa using hd : d = e ∨ d = it) with q | q
    · rw [q]; exact ⟨_, he, fun v z => nomatch z⟩
    · rw [q]; exact ⟨o, ho, fun v z => by rw [hdt] at z; cases z⟩
  keep := fun i h h' st k => by
    obtain ⟨⟨old, he⟩, hi⟩ := st
    exact ⟨⟨old, k e (by simp) _ he⟩, hi.at fun o q => k it (by simp) o q⟩
  item := by
    intro X hP hw hK hc i pins s σ H E I hf st hg
    subst hP hw hK
    obtain ⟨⟨old, he⟩, hit⟩ := st
    obtain ⟨xs, x, hq, hx⟩ := hg
    obtain ⟨its, rv, p, _⟩ := I.list hq
    obtain ⟨u, hu, ru⟩ := rv.get hx
    have hes : e < s.heap.objs.size := Heap.lt_size he
    have hts : it < s.heap.objs.size := by obtain ⟨_, q, _⟩ := id hit; exact Heap.lt_size q
    have hh : X.A.in1.handled = none := I.ok.hd hc
    have hlt : i < its.toArray.size := by simpa using (List.getElem?_eq_some_iff.mp hu).1
    refine wpAny_pyNext_enum_itemC (Draws.list hh it a hai its.toArray) he ⟨hit, p.isList⟩ hlt hei (fun z => (List.mem_cons.mp z).elim hei fun z => hae (List.mem_singleton.mp z).symm) fun y h' tk hy ho hst' hT hsz hk => ?_
    have ey : y = u := by
      have hy' : its[i]? = some y := by simpa using hy
      rw [hu] at hy'
      exact (Option.some.inj hy').symm
    subst ey
    refine ⟨_, rfl, wpAny_letOwnedTupleGo_enum (s := { s with heap := h', toks := tk + 1 }) ho fun h'' he' sb => ?_⟩
    have hT2 : h''.get? s.heap.objs.size = some { cls := .type "tuple", data := .seq #[.int (k0 + (i : Nat)) tk, y] } := (sb.2 _ (Nat.ne_of_gt hes)).trans hT
    have fresh : ObjOk X.prog X.w (upd H s.heap.objs.size (.tup [.int (k0 + (i : Nat)), x])) h'' s.heap.objs.size (.tup [.int (k0 + (i : Nat)), x]) :=
      ⟨by show 2 ≤ sizeLine; decide, [.int (k0 + (i : Nat)) tk, y], .cons ⟨_, rfl⟩ (.cons ru .nil), ⟨_, hT2, rfl, _, rfl⟩⟩
    have I1 : Inv X pins σ (upd H s.heap.objs.size (.tup [.int (k0 + (i : Nat)), x])) { s with heap := h'', toks := tk + 1 } :=
      I.turnedNew (ch := [e, it]) (fun d o hb q => (sb.2 d (fun z => hb (by simp [z]))).trans (hk d o (fun z => hb (by simp [z])) (fun z => hb (by simp [z])) q)) hf (Nat.le_refl _) fresh
    refine ⟨.ref s.heap.objs.size, _, I1, rfl, ⟨_, x, rfl, I.hok.fresh (Nat.le_refl _), rfl, fun l hl => by rw [I.list_inj hl hq]; exact hx⟩, ⟨⟨y, ?_⟩, hst'.1.at fun o q => (sb.2 it hei.symm).trans q⟩, fun d hd => ?_⟩
    · have e1 : k0 + ((i + 1 : Nat) : Int) = k0 + (i : Int) + 1 := by omega
      rw [e1]
      exact he'
    · have hlt' : d < s.heap.objs.size := by
        rcases (by simpa using hd : d = e ∨ d = it) with q | q
        · rw [q]; exact hes
        · rw [q]; exact hts
      rw [upd_ne (Nat.ne_of_lt hlt')]
      exact (hf d hd).1
  done := by
    intro X hP hw hK hc i pins s σ H E I hf st hg
    subst hP hw hK
    obtain ⟨⟨old, he⟩, hit⟩ := st
    obtain ⟨xs, hq, hx⟩ := hg
    obtain ⟨its, rv, p, _⟩ := I.list hq
    obtain ⟨f0, f1, f2, f3, f4, f5⟩ := hf it (by simp)
    have hh : X.A.in1.handled = none := I.ok.hd hc
    have hsz : i = its.toArray.size := by rw [hx, List.size_toArray]; exact rv.length
    subst hsz
    exact wpAny_pyNext_enum_endD (Draws.list hh it a hai its.toArray) he ⟨hit, p.isList⟩ fun h' eb => ⟨rfl, I.turned (t' := s.toks) (fun b o hb q => eb b o hb q) f0 f1 f3 f4 f5⟩
  self := fun A i s Q E st h => let ⟨⟨_, he⟩, _⟩ := st; wpAny_pyIter_enum he h
theorem callWith_typeKw {M : Model} {A : Around} {E : Value → Shared → Prop} {s : Shared} {pos : Pos} {T : String} {args : List (Bool × Sem Value)} {kws : List (Option Str × Sem Value)} {Q : Value → Shared → Prop} (hplain : (args.any (·.1) || kws.any (·.1.isNone)) = false)
    (h : wpAny M A (evalArgs (.type T) true args kws) (fun a s₁ => wpAny M A (call (.type T) a.pos a.kw) Q E s₁) E s) : wpAny M A (callWith pos (.type T) [] args kws) Q E s := by
  unfold callWith
  refine wpAny_bind (wpAny_holding (wpAny_mono h (fun a s₁ h₁ => wpAny_bind (wpAny_standAt ?_)) fun _ _ x => x))
  simp only [hplain]
  refine wpAny_bind (wpAny_pure ?_)
  exact wpAny_bind (wpAny_mono h₁ (fun r s₂ hr => wpAny_bind (wpAny_holding (wpAny_point (wpAny_pure hr)))) fun _ _ x => x)
def iEnumS (K : PySem.W.Frag) (ta tk : TA) : TI := fun σ H R => ta σ H fun vs H1 => tk σ H1 fun zs H2 => ∃ a xs k0, vs = [.ref a] ∧ zs = [.int k0] ∧ 0 ≤ k0 ∧ k0 < 1000 ∧ SqL K H2 a xs ∧ R (IteS K a k0) H2
theorem pi_enumS {X : Cx} {e : Expr} {ta tk : TA} {p pos tpos : Pos} {elts : List Expr} {kk : Nat} {kws : List Keyword} (hg : Gl X "enumerate") (hm : X.mg "enumerate" = none) (ha : PA X [e] ta) (hkw : PK X kws tk) (hs : starEach [e] X.env = (false, eval e X.env) :: starEach [] X.env := by rfl)
    (hall : (backToKw pos (keywordEach kws X.env)).all (·.1.isSome) = true := by rfl) (hks : (backToKw pos (keywordEach kws X.env)).filterMap (·.1) = [Str.ofString "start"] := by rfl)
    (hpl : ((backTo pos (starEach [e] X.env)).any (·.1) || (backToKw pos (keywordEach kws X.env)).any (·.1.isNone)) = false := by rfl) :
    PI X (.Tuple elts kk tpos) (.Call (.Name "enumerate" p) [e] kws pos) (iEnumS X.K ta tk) := by
  refine ⟨fun pins s σ H R I h => ?_⟩
  refine wpAny_Call_Name_kw (ld_blt I hg hm boot_enumerate (callWith_typeKw hpl (evalArgs_kw2 hall ?_ hs)))
  refine thn (ha.run pos pins s σ H _ I h) fun us s1 ⟨vs, H1, I1, r1, q1⟩ => ?_
  refine thn (hkw.run pos pins s1 σ H1 _ I1 q1) fun ws s2 ⟨zs, H2, I2, rz, q2⟩ => ?_
  obtain ⟨a, xs, k0, ex, ez, hk0, hk1, hq, q⟩ := q2
  subst ex ez
  rw [hks]
  cases r1 with
  | cons r rr =>
    cases rr
    cases r
    cases rz with
    | cons z zr =>
      cases zr
      obtain ⟨tk0, rfl⟩ := z
      obtain ⟨its, rv, p', _⟩ := I2.list hq
      have la : a < s2.heap.objs.size := p'.lt
      refine enum_begins_start (begins_list a its.toArray) p'.isList (by omega) (by omega) fun h' he hit hsz hk => wpAny_pyIter_enum he ?_
      have I3 : Inv X pins σ H2 { s2 with heap := h' } := I2.kept (t' := s2.toks) hk
      refine ⟨s2.heap.objs.size + 1, [s2.heap.objs.size + 1, s2.heap.objs.size], _, _, H2, rfl, I3, turn_enumS k0 a (s2.heap.objs.size + 1) s2.heap.objs.size (Nat.ne_of_lt la) (Nat.ne_of_lt (Nat.lt_succ_of_lt la)) (Nat.succ_ne_self _), ⟨⟨.none, ?_⟩, ⟨_, hit, rfl, rfl⟩⟩, fun b hb => ?_, q⟩
      · have e0 : k0 + ((0 : Nat) : Int) = k0 := by omega
        rw [e0]
        exact he
      · have hle : s2.heap.objs.size ≤ b := by
          rcases (by simpa using hb : b = s2.heap.objs.size + 1 ∨ b = s2.heap.objs.size) with z | z
          · rw [z]; exact Nat.le_add_right _ _
          · rw [z]; exact Nat.le_refl _
        exact I2.fpOk hle (I2.hok.fresh hle)
theorem walk_enumS {K : PySem.W.Frag} {a : Addr} {xs : List V} {k0 : Int} : Walk (IteS K a k0) xs.length (fun H => SqL K H a xs) (YPair (fun i => some (.int (k0 + (i : Nat)))) (fun i => xs[i]?)) := by
  refine ⟨fun i _ hi q => ⟨xs, xs[i], q, by simp [hi]⟩, fun _ q => ⟨xs, q, rfl⟩, fun i H v H' _ q y => ?_⟩
  obtain ⟨T, x, h1, h2, h3, h4⟩ := y
  exact ⟨T, .int (k0 + (i : Nat)), x, h1, h2, h3, rfl, h4 xs q⟩
end Lm

namespace Lm
open PySem PySem.Spec PyProof.Rows L2
/-- text * int, for a number from 2 on -/
def repS (x : Str) (n : Nat) : Str := ⟨(List.replicate n x.cps).foldl (· ++ ·) #[]⟩
def rMulS : R2 := fun x y H Q => ∃ (a : Str) (n : Nat), x = .str a ∧ y = .int (n : Int) ∧ 2 ≤ n ∧ n ≤ 1000 ∧ 0 < a.length ∧ a.length ≤ 1000 ∧ Q (.str (repS a n)) H
theorem foldl_app : ∀ (l : List (Array Nat)) (acc : Array Nat), (l.foldl (· ++ ·) acc).toList = acc.toList ++ (l.map Array.toList).flatten
  | [], acc => by simp
  | a :: r, acc => by rw [List.foldl_cons, foldl_app r]; simp
theorem tl_repS (x : Str) (n : Nat) : TL.tl (repS x n) = (List.replicate n (TL.tl x)).flatten := by
  show ((List.replicate n x.cps).foldl (· ++ ·) #[]).toList = _
  rw [foldl_app]
  simp [TL.tl]
theorem op_mulS {X : Cx} : OpR X (binaryOp .Mult) rMulS := by
  intro pins s σ H x y v u Q I rx ry h
  obtain ⟨a, n, rfl, rfl, h1, h2, h3, h4, q⟩ := h
  obtain ⟨t, rfl⟩ := rx
  obtain ⟨t', rfl⟩ := ry
  have hn1 : ¬ (n : Int) < 1 := by omega
  have hne : ((n : Int) == 1 || a.length == 0) = false := by
    have e1 : ((n : Int) == 1) = false := by simpa using (by omega : ¬ (n : Int) = 1)
    have e2 : (a.length == 0) = false := by simpa using (by omega : ¬ a.length = 0)
    rw [e1, e2]; rfl
  have hprod : a.length * n ≤ 1000000 := Nat.mul_le_mul h4 h2
  refine P.mul_str ?_ (fun _ _ => ?_) (fun _ _ => ?_) ?_
  · rw [decide_eq_false (by omega), decide_eq_false (by omega)]; rfl
  · have hle : (a.length : Int) * (n : Int) ≤ 2 ^ 63 - 1 := by
      have : (a.length : Int) * (n : Int) = ((a.length * n : Nat) : Int) := by simp
      rw [this]
      omega
    have hd : (a.length : Int) ≤ (2 ^ 63 - 1) / (n : Int) := (Int.le_ediv_iff_mul_le (by omega)).mpr hle
    omega
  · have : (n : Int).toNat = n := by simp
    rw [this]
    unfold Builtin.Str.tooLong
    simp
    have : (1000000 : Nat) ≤ sizeLine := by decide
    omega
  · rw [if_neg hn1, if_neg (by rw [hne]; simp)]
    have e : (n : Int).toNat = n := by simp
    rw [e]
    have hl : (repS a n).length ≤ sizeLine := by
      have e3 := TL.len_tl (repS a n)
      rw [tl_repS] at e3
      have e4 : (List.replicate n (TL.tl a)).flatten.length = n * (TL.tl a).length := by simp
      rw [e4, ← TL.len_tl] at e3
      have e5 : n * a.length = a.length * n := Nat.mul_comm _ _
      have : (1000000 : Nat) ≤ sizeLine := by decide
      omega
    exact ⟨hl, .str (repS a n), H, I.tok (t := s.toks + 1), ⟨_, rfl⟩, q⟩
end Lm

namespace Lm
open PySem L2
/-! ### readings of texts -/
def rStrO : List V → Hp → VK → Prop := fun xs H Q => (∃ i : Int, xs = [.int i] ∧ i.natAbs.log2 < 1920 ∧ Q (.str (toString i)) H) ∨ ∃ a : Str, xs = [.str a] ∧ Q (.str a) H
theorem call_strO {X : Cx} : CallR X (.type "str") rStrO := by
  intro pins s σ H xs us Q I r h
  rcases h with h | h
  · exact call_str_int pins s σ H xs us Q I r h
  · exact SkE.call_str_str pins s σ H xs us Q I r h
def rIntS : List V → Hp → VK → Prop := fun xs H Q => ∃ a n, xs = [V.str a] ∧ PySem.intText? a = some n ∧ a.length ≤ 640 ∧ Q (.int n) H
def rJoin (K : PySem.W.Frag) : V → List V → Hp → VK → Prop := fun x xs H Q => ∃ a p, ∃ ys : List Str, x = .str a ∧ xs = [.ref p] ∧ (SqL K H p (ys.map V.str) ∨ SqT K H p (ys.map V.str)) ∧ (ys.map (·.length)).sum + ys.length * a.length ≤ 16777216 ∧ Q (.str (Txt.join a ys)) H
def rSplit : V → List V → Hp → VK → Prop := fun x xs H Q => ∃ a b, x = .str a ∧ xs = [.str b] ∧ (b.length == 0) = false ∧ a.length + 2 ≤ sizeLine ∧ rNewStrs (Txt.split a b) H Q
def rInSign : R2 := fun x y H Q => ∃ (c : Nat) (z : Str), x = .str ⟨#[c]⟩ ∧ y = .str z ∧ Q (.bl (decide (c ∈ z.cps.toList))) H
def rNotInSign : R2 := fun x y H Q => ∃ (c : Nat) (z : Str), x = .str ⟨#[c]⟩ ∧ y = .str z ∧ Q (.bl (!decide (c ∈ z.cps.toList))) H
/-- nothing is raised by a def that might raise -/
def XNo : XK := fun _ _ _ => False
theorem passes_no {X : Cx} : Passes (L2.CX X.prog X.w) X XNo := fun _ _ _ _ _ _ _ h => by
  obtain ⟨_, _, _, _, _, _, _, _, _, _, _, _, h⟩ := h
  exact h.elim
end Lm

namespace Lm
open PySem L2
section
variable {X : Cx} {k : Nat} {f : Addr} {fd : FuncData} {ps ks : List Str} {sp : Sp} {x : Str} {p pos : Pos} {kws : List Keyword} {tk : TA} {g : List Value → List Value → List Value} {gV : List V → List V → List V} {E : XK}
/-- a def that may raise, called by keywords alone -/
theorem pe_dKX (D : DefOkX X.prog X.w X.K X.mg X.base k x f fd ps sp) (hb : KBn X.K fd ps 0 ks g gV) (hr : Room k X.A) (hx : Passes (L2.CX X.prog X.w) X E) (hkw : PK X kws tk) (hg : Gl X x := by rfl) (hdb : (x == ("__debug__" : Str)) = false := by decide)
    (hall : (backToKw pos (keywordEach kws X.env)).all (·.1.isSome) = true := by rfl) (hks : (backToKw pos (keywordEach kws X.env)).filterMap (·.1) = ks := by rfl)
    (hpl : ((backTo pos (starEach [] X.env)).any (·.1) || (backToKw pos (keywordEach kws X.env)).any (·.1.isNone)) = false := by rfl) :
    PE X (.Call (.Name x p) [] kws pos) (tCallK0 sp ks.length gV E tk) := by
  refine ⟨fun pins s σ H Q I h => ?_⟩
  refine wpAny_Call_Name_kw (ld_glob I hg D.mg ?_ hdb)
  refine PySem.W.callWith_KW0 (h₀ := X.base) I.ok.mod.kin D.kp hall ?_ hpl
  refine thn (hkw.run pos pins s σ H _ I h) fun ws s2 ⟨zs, H2, I2, rz, l2, q2⟩ => ⟨I2.kIn, ?_⟩
  rw [hks]
  have r2 := hb.rel (vs := []) (us := []) .nil rz
  have hl : (g [] ws).length = ps.length := by rw [← r2.length]; exact D.ok.len _ _ _ _ q2
  refine wpAny_call (codeAny_mono (D.ok.run X.A X.stack s2 H2 ⟨[], ks.zip ws⟩ (g [] ws) (gV [] zs) Q E hr I2.env0 (hb.to s2 [] ws I2.kIn rfl (rz.length.symm.trans l2)) r2 q2) fun r s' hq => ?_)
  cases r with
  | error e => exact hx pins σ H2 s2 e s' I2 hq
  | ok fl =>
    cases fl with
    | ret u => exact I2.after hq
    | next => exact False.elim hq
    | brk => exact False.elim hq
    | cont => exact False.elim hq
end
end Lm

namespace Lm
open PySem PySem.Spec PyProof.Rows L2
/-! ### xs[i:j:k] of a list -/
def pickV (xs : List V) (lo hi st : Option Int) : List V := (sliceRange (sliceBounds lo hi st xs.length).1 (sliceBounds lo hi st xs.length).2.1 (sliceBounds lo hi st xs.length).2.2).filterMap (xs[·]?)
theorem vals_pick {xs : List V} {its : List Value} (r : Vals xs its) : ∀ ns : List Nat, Vals (ns.filterMap (xs[·]?)) (ns.filterMap (its[·]?))
  | [] => .nil
  | n :: ns => by
    rw [List.filterMap_cons, List.filterMap_cons]
    cases e : xs[n]? with
    | none =>
      have : its[n]? = none := by
        rw [List.getElem?_eq_none_iff] at e ⊢
        rw [← r.length]
        exact e
      rw [this]
      exact vals_pick r ns
    | some x =>
      obtain ⟨u, hu, ru⟩ := r.get e
      rw [hu]
      exact .cons ru (vals_pick r ns)
theorem pickV_len (xs : List V) (lo hi st : Option Int) (its : List Value) (r : Vals xs its) : (slicePick its.toArray lo hi st) = ((sliceRange (sliceBounds lo hi st xs.length).1 (sliceBounds lo hi st xs.length).2.1 (sliceBounds lo hi st xs.length).2.2).filterMap (its[·]?)).toArray := by
  unfold slicePick
  rw [List.size_toArray, ← r.length]
  simp
def tSlSt (K : PySem.W.Frag) (te : TE) (tl th ts : TO) : TE := fun σ H Q => te σ H fun x H1 => tl σ H1 fun lo H2 => th σ H2 fun hi H3 => ts σ H3 fun st H4 => ∃ a xs, x = .ref a ∧ SqL K H4 a xs ∧ st ≠ some 0 ∧ (pickV xs lo hi st).length ≤ sizeLine ∧ ∀ p, H4 p = none → Q (.ref p) (upd H4 p (.lst (pickV xs lo hi st)))
theorem pe_slSt {X : Cx} {e st : Expr} {l u : Option Expr} {te : TE} {tl th ts : TO} {p3 pos : Pos} (he : PE X e te) (h1 : PO X l tl) (h2 : PO X u th) (h3 : PO X (some st) ts) : PE X (.Subscript e (.Slice l u (some st) p3) pos) (tSlSt X.K te tl th ts) := by
  refine ⟨fun pins s σ H Q I h => ?_⟩
  refine Subscript_ (thn (he.run pins s σ H _ I h) fun v s1 ⟨x, H1, I1, r1, q1⟩ => ?_)
  refine wpAny_Slice (thn (h1.run pins s1 σ H1 _ I1 q1) fun vl s2 ⟨lo, H2, I2, pl, q2⟩ => ?_)
  refine thn (h2.run pins s2 σ H2 _ I2 q2) fun vu s3 ⟨hi, H3, I3, pu, q3⟩ => ?_
  refine thn (h3.run pins s3 σ H3 _ I3 q3) fun vs s4 ⟨so, H4, I4, ps, a, xs, ex, hx, h0, hz, q⟩ => ?_
  subst ex
  cases r1
  have I5 : Inv X pins σ H4 { s4 with heap := s4.heap.push { cls := .type "slice", data := .fields #[vl, vu, vs] } } := I4.kept (t' := s4.toks) fun b ob q => Heap.get?_push_of_some _ q
  obtain ⟨its, r, ht, hz2⟩ := I5.list hx
  have hlen := r.length
  show wpAny (model X.prog X.w) X.A (subscriptTail e (.Slice l u (some st) p3) (.ref a) (.ref s4.heap.objs.size)) (EP X pins σ Q) X.xe { s4 with heap := s4.heap.push { cls := .type "slice", data := .fields #[vl, vu, vs] } }
  refine tail_any (ops := [.ref a, .ref s4.heap.objs.size]) ht.isList.typeIs (PySem.slot_list_getitem.lookup) ?_ (by with_unfolding_all rfl)
  refine wpAny_getItem_list_slice ht.isList (Heap.IsSliceOf.new _ vl vu vs) pl pu ps h0 ?_ (by rw [List.size_toArray]; omega)
  rw [pickV_len xs lo hi so its r]
  refine ⟨.ref _, _, I5.laid (t' := s4.toks) (o := .lst (pickV xs lo hi so)) (fun b ob q => Heap.get?_push_of_some _ q) (Nat.le_refl _) ?_, rfl, q _ (I5.hok.fresh (Nat.le_refl _))⟩
  exact ⟨hz, _, 0, vals_pick r _, Heap.get?_push_size _ rfl⟩
end Lm

namespace Lm
open PySem L2 ClX
/-! ### cls(e, ..), cls a name that holds the class at C -/
def tMakeV (i : Nat) (C : Addr) (sp : Sp) (E : XK) (t : TA) : TE := fun σ H Q => σ[i]? = some (some (.ref C)) ∧ tMake C sp [] E t σ H Q
theorem pe_mkV {X : Cx} {k i : Nat} {f C : Addr} {fd : FuncData} {ps : List Str} {sp : Sp} {x y : Str} {p pos : Pos} {e : Expr} {es : List Expr} {t : TA} (D : ClsOk X.prog X.w X.K X.mg X.base k y C f fd ps sp) (hr : Room (k + 1) X.A) (hN : X.N[i]? = some x) (hv : Vis X.env.scope x) (ha : PA X (e :: es) t)
    (hd : (x == ("__debug__" : Str)) = false := by decide) (hcd : (x == ("__classdict__" : Str)) = false := by decide)
    (he : starEach (e :: es) X.env = (false, eval e X.env) :: starEach es X.env := by rfl) (hpl : (backTo pos (starEach es X.env)).any (·.1) = false := by rfl) :
    PE X (.Call (.Name x p) (e :: es) [] pos) (tMakeV i C sp E0 t) := by
  refine ⟨fun pins s σ H Q I h => ?_⟩
  obtain ⟨hs, ht⟩ := h
  refine wpAny_Call_Name_kw (thn ((pe_var (pos := p) hN hv hd hcd).run pins s σ H (fun v H1 => v = .ref C ∧ H1 = H) I ⟨.ref C, hs, rfl, rfl⟩) fun u s1 ⟨v, H1, I1, r1, q1⟩ => ?_)
  obtain ⟨ev, eH⟩ := q1
  subst ev
  rw [eH] at I1
  obtain rfl : u = Value.ref C := r1
  refine PySem.W.callWith_K (h₀ := X.base) I.ok.mod.kin D.mkr.kp (thn (ha.run pos pins s1 σ H _ I1 ht) fun us s2 ⟨vs, H2, I2, r, q⟩ => ⟨I2.kIn, ?_⟩) he hpl
  exact run_make D.mkr D.ok hr D.bd .nil pass0 I2 r q
/-! ### C.m(k = v), m a classmethod -/
def tCMethK (C : Addr) (n : Nat) (sp : Sp) (gV : List V → List V → List V) (E : XK) (ta : TE) (tk : TA) : TE := fun σ H Q => ta σ H fun x H1 => x = .ref C ∧ tk σ H1 fun zs H2 => zs.length = n ∧ sp (gV [.ref C] zs) H2 Q E
theorem pe_cmethK {X : Cx} {CX : CXT} {k : Nat} {C p g : Addr} {mc : Value} {m : Str} {sp : Sp} {E : XK} {fd : FuncData} {ps ks : List Str} {G : List Value → List Value → List Value} {gV : List V → List V → List V} {o : Expr} {pos apos : Pos} {ta : TE} {tk : TA} {kws : List Keyword} {pl : Sem Bool}
    (F : FnOk X.prog X.w X.K X.mg X.base CX k g fd ps sp) (hb : KBn X.K fd ps 1 ks G gV) (r : CRead X.K C mc) (c : CMet X.K C mc m p g) (hr : Room k X.A) (hx : Passes CX X E) (he : PE X o ta) (hkw : PK X kws tk)
    (hall : (backToKw pos (keywordEach kws X.env)).all (·.1.isSome) = true := by rfl) (hks : (backToKw pos (keywordEach kws X.env)).filterMap (·.1) = ks := by rfl)
    (hpl : ((backTo pos (starEach [] X.env)).any (·.1) || (backToKw pos (keywordEach kws X.env)).any (·.1.isNone)) = false := by rfl)
    (ht : eval (.Call (.Attribute o m apos) [] kws pos) X.env = (do
      let ov ← eval o X.env
      standAt apos.atName
      let (f, first) ← holding [ov] (getMethod ov m pl)
      callWith pos f first (backTo pos (starEach [] X.env)) (backToKw pos (keywordEach kws X.env))) := by rfl) :
    PE X (.Call (.Attribute o m apos) [] kws pos) (tCMethK C ks.length sp gV E ta tk) := by
  refine ⟨fun pins s σ H Q I h => ?_⟩
  refine PySem.W.methodCall_KW (pl := pl) (thn (he.run pins s σ H _ I h) fun u s1 ⟨x, H1, I1, rx, ex, q⟩ => ?_) ht
  subst ex
  obtain rfl : u = Value.ref C := rx
  refine getmethcm_ok I1 r c fun s2 I2 => ?_
  refine PySem.W.callWith_of hpl (PySem.W.keeps_M (self := .ref C) c.fi) (PyProof.Rows.evalArgs_kw2_nil hall ?_)
  refine thn (hkw.run pos _ s2 σ H1 _ I2 q) fun ws s3 ⟨zs, H2, I3, rz, l2, q2⟩ => ⟨⟨pin_at I3, I3.kIn⟩, ?_⟩
  rw [hks]
  have r2 := hb.rel (vs := [V.ref C]) (us := [Value.ref C]) (.cons rfl .nil) rz
  have z : wpAny (model X.prog X.w) X.A (call (.ref s1.heap.objs.size) [] (ks.zip ws)) (EP X ((s1.heap.objs.size, PySem.W.methodObj (.ref g) (.ref C)) :: pins) σ Q) X.xe s3 := by
   refine wpAny_call (PySem.W.method_call (pin_at I3) (codeAny_mono (F.run X.A X.stack s3 H2 ⟨[.ref C], ks.zip ws⟩ (G [.ref C] ws) (gV [.ref C] zs) Q E hr I3.env0 (hb.to s3 [.ref C] ws I3.kIn rfl (rz.length.symm.trans l2)) r2 q2) fun r s' hq => ?_))
   cases r with
   | error e => exact hx _ σ H2 s3 e s' I3 hq
   | ok fl =>
     cases fl with
     | ret u => exact I3.after hq
     | next => exact False.elim hq
     | brk => exact False.elim hq
     | cont => exact False.elim hq
  exact thn z fun _ _ y => unpinE y
end Lm

namespace Lm
open PySem L2 Evl
/-! ### an own error with two fields -/
structure ErrF2 (K : PySem.W.Frag) (mg : Str → Option Value) (x : Str) (C fI : Addr) (f1 f2 : Str) : Prop where
  g : mg x = some (.ref C)
  T : OexC K C
  X : XfC K C
  ini : PySem.W.findIn K (.ref C) "__init__" = some (some (.ref fI))
  ty : PySem.W.typeIn K (.ref fI) = some (.type "function")
  n1 : PySem.W.findIn K (.ref C) f1 = some none
  n2 : PySem.W.findIn K (.ref C) f2 = some none
  ic : PySem.W.isClsIn K C = true
  self : PySem.W.subIn K (.ref C) (.ref C) = some true
theorem ErrF2.exm {K : PySem.W.Frag} {mg : Str → Option Value} {x : Str} {C fI : Addr} {f1 f2 : Str} (T : ErrF2 K mg x C fI f1 f2) : PySem.W.exmOne K (.ref C) (.ref C) = some true := exm_self T.T.exC T.ic T.T.tyC T.self
def spErrI2 (C : Addr) (f1 f2 : Str) : Sp := fun vs H Q _ => ∃ (a : Addr) (v1 v2 : V), vs = [.ref a, v1, v2] ∧ H a = some (exo a C none) ∧ ∀ dx, H dx = none → dx ≠ a → Q .non (upd (upd (upd H dx (exd dx [(f1, v1)])) a (exo a C (some dx))) dx (exd dx [(f2, v2), (f1, v1)]))
theorem go_mkO2 {C : Addr} {f1 f2 : Str} {ta tb : TE} {σ : L2.St} {H : Hp} {Q : XK} {v1 v2 : V} (h1 : Ev ta σ H v1) (h2 : Ev tb σ H v2) (k : ∀ H1 d, Ex H H1 → H1 d = none → Q (.ref C) (some d) (upd H1 d (.xd [(f2, v2), (f1, v1)]))) : tMkO C (spErrI2 C f1 f2) [] (tCons ta (tCons tb tNil)) σ H Q :=
  h1 H (Ex.refl H) _ fun H0 e0 => h2 H0 e0 _ fun H1 e1 => ⟨by show 2 ≤ 1000; decide, fun a na => ⟨a, v1, v2, rfl, upd_same, fun dx ndx hda => ⟨rfl, dx, [(f2, v2), (f1, v1)], by rw [upd_ne hda.symm]; exact upd_same, upd_same, by rw [upd_ne hda] at ndx; exact ndx, by
    have hn : H1 dx = none := by rw [upd_ne hda] at ndx; exact ndx
    have e : upd (del (upd (upd (upd (upd H1 a (exo a C none)) dx (exd dx [(f1, v1)])) a (exo a C (some dx))) dx (exd dx [(f2, v2), (f1, v1)])) a) dx (.xd [(f2, v2), (f1, v1)]) = upd H1 dx (.xd [(f2, v2), (f1, v1)]) := by
      funext b
      by_cases hb : b = dx
      · subst hb
        rw [upd_same, upd_same]
      · rw [upd_ne hb, upd_ne hb]
        by_cases hba : b = a
        · subst hba
          rw [del_same, na]
        · rw [del_ne hba, upd_ne hb, upd_ne hba, upd_ne hb, upd_ne hba]
    rw [e]
    exact k H1 dx (Ex.trans e0 e1) hn⟩⟩⟩
end Lm

namespace Lm
open PySem PySem.Spec PyProof.Rows L2 Builtin PySem.HandSPX
/-! ### own errors made with keywords -/
section
variable {prog : Program} {w : World} {A : Around} {E : Value → Shared → Prop} {R : Result → Shared → Prop} {h : Heap} {g : Array GenState} {d : Drawn} {t : Nat} {os : OsState} {vs : List Value} {kw : List (Str × Value)}
variable {nm q : Str} {C N : Addr} {bs bm bmB : List Value} {hdct : Bool} {sn : List Str} {sub : List Value} {ab : Bool} {col : Option Bool} {dd : Option Addr} {k0 k1 k2 k3 k5 : Option Value} {B newId initId : String}
theorem exk_check {M : Model} (F : ExcBaseFacts B newId initId bmB) (hT : ∀ X : String, bm.contains (.type X) = bmB.contains (.type X)) {Q : Unit → Shared → Prop}
    (hC : h.get? C = some (excClassObj nm q C N bs bm hdct sn sub ab col dd k0 k1 k2 k3 k5 newId)) (hq : Q () ⟨h, g, d, t, os⟩) : wpAny M A (checkBuiltinCall newId ⟨.ref C :: vs, kw⟩) Q E ⟨h, g, d, t, os⟩ := by
  have fB : (Value.ref C :: bm).contains (.type B) = true := by rw [List.contains_cons, hT, F.hasB, Bool.or_true]
  have fS := F.noStar
  simp only [checkBuiltinCall, F.newKind, F.newSplit, F.newRow]
  repeat (first | with_reducible refine wpAny_loadPart_at hC ?_ | (with_reducible refine wpAny_isSubtype_exc hC ?_; rw [fB]) | with_reducible refine wpAny_staticBase_exc hC ?_ | with_reducible refine wpAny_madeBy_exc hC ?_ | simp only [bne_self_eq_false, Bool.false_eq_true, if_false] | wp_step)
  exact hq

theorem exk_new (F : ExcBaseFacts B newId initId bmB) (hT : ∀ X : String, bm.contains (.type X) = bmB.contains (.type X))
    (hC : h.get? C = some (excClassObj nm q C N bs bm hdct sn sub ab col dd k0 k1 k2 k3 k5 newId)) (hz : vs.length ≤ sizeLine)
    (hq : R (.ok (.ret (.ref (h.objs.size + 1)))) ⟨(h.push (PySem.W.kdv_tup vs)).push (excO C h.objs.size), g, d, t, os⟩) : codeAny (model prog w) A (.builtin newId ⟨.ref C :: vs, kw⟩) R ⟨h, g, d, t, os⟩ := by
  have fE := F.ends
  have fB : (Value.ref C :: bm).contains (.type B) = true := by rw [List.contains_cons, hT, F.hasB, Bool.or_true]
  have fA : (Value.ref C :: bm).contains (.type "AttributeError") = false := by rw [List.contains_cons, hT, F.noAttr]; rfl
  have fN : (Value.ref C :: bm).contains (.type "NameError") = false := by rw [List.contains_cons, hT, F.noName]; rfl
  refine codeAny_builtinAt F.entry ?_
  unfold Builtin.«BaseException.__new__»
  refine PySem.wpAt_bind ?_
  show PySem.wpAt _ _ _ (stack >>= _) _ _ _
  refine PySem.wpAt_bind (PySem.wpAt_stack fun _ _ => PySem.wpAt_of_wpAny ?_)
  wp_walk
  refine PySem.wpAt_of_wpAny ?_
  rw [F.owner]
  repeat (first | with_reducible refine wpAny_loadPart_at hC ?_ | (with_reducible refine wpAny_isSubtype_exc hC ?_; first | rw [fB] | rw [fA] | rw [fN]) | with_reducible refine wpAny_madeHere_exc F.canon hC ?_ | wp_step)
  show R _ _
  rw [Heap.size_push]
  exact hq
theorem exk_type (F : ExcBaseFacts B newId initId bmB) (hT : ∀ X : String, bm.contains (.type X) = bmB.contains (.type X)) {fI : Addr} {Q : Fin → Shared → Prop}
    (hC : h.get? C = some (excClassObj nm q C N bs bm hdct sn sub ab col dd k0 k1 k2 k3 k5 newId))
    (hi : PySem.W.Looks (model prog w) h (typeLookup (.ref C) "__init__") (some (.ref fI))) (hb : ∀ self, PySem.W.Looks (model prog w) h (bindSpecial (.ref fI) self) (.ref fI, [self])) (hz : vs.length ≤ sizeLine)
    (hq : codeAny (model prog w) A (.call (.ref fI) ⟨.ref (h.objs.size + 1) :: vs, kw⟩)
      (fun r s' => match r with | .ok (.ret v) => v = .none ∧ Q (.done (.ret (.ref (h.objs.size + 1)))) s' | .ok _ => False | .error e => E e s')
      ⟨(h.push (PySem.W.kdv_tup vs)).push (excO C h.objs.size), g, d, t, os⟩) :
    wpAny (model prog w) A (Builtin.«type.__call__» ⟨.ref C :: vs, kw⟩) Q E ⟨h, g, d, t, os⟩ := by
  repeat (first | with_reducible refine wpAny_madeBy_exc hC ?_ | with_reducible refine wpAny_loadPart_at hC ?_ | wp_step)
  refine codeAny_call_builtin_code (Code.quiet_builtin _ F.quiet) (exk_check F hT hC (exk_new F hT hC hz ?_))
  show wpAny _ _ _ _ _ _
  have kk : ∀ b o, h.get? b = some o → ((h.push (PySem.W.kdv_tup vs)).push (excO C h.objs.size)).get? b = some o := fun b o e => Heap.get?_push_of_some _ (Heap.get?_push_of_some _ e)
  have gC := kk _ _ hC
  have gE : ((h.push (PySem.W.kdv_tup vs)).push (excO C h.objs.size)).get? (h.objs.size + 1) = some (excO C h.objs.size) := by heap_get
  have cC : (Value.ref C :: bm).contains (.ref C) = true := by simp
  unfold isInstance
  repeat (first | with_reducible refine wpAny_loadPart_at gE ?_ | (with_reducible refine wpAny_isSubtype_exc gC ?_; rw [cC]) | wp_step)
  show wpAny _ _ (typeLookup (.ref C) _) _ _ _
  refine (hi.keeps kk).at (wpAny_holding (wpAny_bind (((hb (.ref (h.objs.size + 1))).keeps kk).at ?_)))
  refine wpAny_bind (wpAny_call (codeAny_mono hq fun r s' z => ?_))
  cases r with
  | error e => exact z
  | ok fl =>
    cases fl with
    | ret v =>
      obtain ⟨rfl, z⟩ := z
      first
        | exact wpAny_pure (wpAny_pure z)
        | (wp_walk; exact z)
    | next => exact z.elim
    | brk => exact z.elim
    | cont => exact z.elim
theorem exk_tc {M : Model} {Q : Unit → Shared → Prop} (hC : h.get? C = some (excClassObj nm q C N bs bm hdct sn sub ab col dd k0 k1 k2 k3 k5 newId)) (hq : Q () ⟨h, g, d, t, os⟩) :
    wpAny M A (checkBuiltinCall "type.__call__" ⟨.ref C :: vs, kw⟩) Q E ⟨h, g, d, t, os⟩ := by
  have f3 := tc_sub
  have hTy : (⟨h, g, d, t, os⟩ : Shared).TypeIs (.ref C) "type" := ⟨_, hC, rfl⟩
  simp only [checkBuiltinCall, tc_kind, tc_split]
  repeat (any_goals (first | assumption | with_reducible refine wpAny_onRaise ?_ | with_reducible refine wpAny_map ?_ | with_reducible refine wpAny_loadPart_at hC ?_ | wp_step))
theorem exk_call (F : ExcBaseFacts B newId initId bmB) (hT : ∀ X : String, bm.contains (.type X) = bmB.contains (.type X)) {fI : Addr}
    (hC : h.get? C = some (excClassObj nm q C N bs bm hdct sn sub ab col dd k0 k1 k2 k3 k5 newId))
    (hi : PySem.W.Looks (model prog w) h (typeLookup (.ref C) "__init__") (some (.ref fI))) (hb : ∀ self, PySem.W.Looks (model prog w) h (bindSpecial (.ref fI) self) (.ref fI, [self])) (hz : vs.length ≤ sizeLine)
    (hq : codeAny (model prog w) (A.under (.builtin "type.__call__" ⟨.ref C :: vs, kw⟩)) (.call (.ref fI) ⟨.ref (h.objs.size + 1) :: vs, kw⟩) (PySem.W.InitBack (h.objs.size + 1) R)
      ⟨(h.push (PySem.W.kdv_tup vs)).push (excO C h.objs.size), g, d, t, os⟩) :
    codeAny (model prog w) A (.call (.ref C) ⟨vs, kw⟩) R ⟨h, g, d, t, os⟩ := by
  have f1 := tc_lookup
  have f2 := tc_bind (.ref C)
  have hTy : (⟨h, g, d, t, os⟩ : Shared).TypeIs (.ref C) "type" := ⟨_, hC, rfl⟩
  refine codeAny_of_tree ?_
  show wpAny _ _ (callAny (.ref C) _) _ _ _
  repeat (any_goals (first | assumption | with_reducible refine wpAny_loadPart_at hC ?_ | wp_step))
  refine ⟨rfl, codeAny_call_builtin_at (Code.quiet_builtin _ (by decide +kernel)) entry_typeCall (exk_tc hC (exk_type F hT hC hi hb hz (codeAny_mono hq fun r s' z => ?_)))⟩
  rcases r with e | (v | _ | _ | _) <;> exact z
end
end Lm

namespace Lm
open PySem L2 PySem.Spec PyProof.Rows Evl
/-! ### own errors held as values -/
/-- C(e, ..), the new error stays -/
def tErV (C : Addr) (sp : Sp) (ta : TA) : TE := fun σ H Q => ta σ H fun vs H1 => vs.length ≤ 1000 ∧ ∀ a, H1 a = none → sp (.ref a :: vs) (upd H1 a (exo a C none)) (fun v H2 => v = .non ∧ Q (.ref a) H2) (fun _ _ _ => False)
/-- C(k = e, ..) -/
def tErVK (C : Addr) (n : Nat) (sp : Sp) (gV : List V → List V → List V) (tk : TA) : TE := fun σ H Q => tk σ H fun zs H1 => zs.length = n ∧ ∀ a, H1 a = none → sp (gV [.ref a] zs) (upd H1 a (exo a C none)) (fun v H2 => v = .non ∧ Q (.ref a) H2) (fun _ _ _ => False)
/-- what the text says of an own error with an own __init__ -/
structure ErrV (P : Program) (w : World) (K : PySem.W.Frag) (mg : Str → Option Value) (base : Heap) (k : Nat) (x : Str) (C fI : Addr) (fd : FuncData) (ps : List Str) (sp : Sp) : Prop where
  T : OexC K C
  ini : PySem.W.findIn K (.ref C) "__init__" = some (some (.ref fI))
  ty : PySem.W.typeIn K (.ref fI) = some (.type "function")
  ok : FnOk P w K mg base CX0 k fI fd ps sp
  bd : Binds K fd ps []
  g : mg x = some (.ref C)
section
variable {X : Cx} {C fI : Addr} {k : Nat} {fd : FuncData} {ps ks : List Str} {sp : Sp} {x : Str} {p pos : Pos} {e : Expr} {es : List Expr} {kws : List Keyword} {ta tk : TA} {g : List Value → List Value → List Value} {gV : List V → List V → List V}
theorem exk_laid {pins : List (Addr × Obj)} {σ : L2.St} {H1 : Hp} {hp : Heap} {gs : Array GenState} {dr : Drawn} {tk : Nat} {os : OsState} (I1 : Inv X pins σ H1 ⟨hp, gs, dr, tk, os⟩) (us : List Value) :
    Inv X pins σ (upd H1 (hp.objs.size + 1) (exo (hp.objs.size + 1) C none)) ⟨(hp.push (PySem.W.kdv_tup us)).push (PySem.HandSPX.excO C hp.objs.size), gs, dr, tk, os⟩ := by
  have hget : ((hp.push (PySem.W.kdv_tup us)).push (PySem.HandSPX.excO C hp.objs.size)).get? (hp.objs.size + 1) = some (PySem.HandSPX.excO C hp.objs.size) := by heap_get
  exact I1.laid (t' := tk) (a := hp.objs.size + 1) (o := exo (hp.objs.size + 1) C none) (h' := (hp.push (PySem.W.kdv_tup us)).push (PySem.HandSPX.excO C hp.objs.size)) (fun b o e => Heap.get?_push_of_some _ (Heap.get?_push_of_some _ e)) (Nat.le_succ _) (exo_ok hget)
theorem pe_erV (D : ErrV X.prog X.w X.K X.mg X.base k x C fI fd ps sp) (hr : Room (k + 1) X.A) (ha : PA X (e :: es) ta) (hg : Gl X x := by rfl)
    (hdb : (x == ("__debug__" : Str)) = false := by decide) (he : starEach (e :: es) X.env = (false, eval e X.env) :: starEach es X.env := by rfl) (hpl : (backTo pos (starEach es X.env)).any (·.1) = false := by rfl) :
    PE X (.Call (.Name x p) (e :: es) [] pos) (tErV C sp ta) := by
  refine ⟨fun pins s σ H Q I h => ?_⟩
  obtain ⟨nm, q, N, bs, bm, sn, sub, ab, col, dd, k0, k1, k2, k3, k5, hC, hbm⟩ := D.T.cls
  refine wpAny_Call_Name_kw (ld_glob I hg D.g ?_ hdb)
  refine PySem.W.callWith_K (h₀ := X.base) I.ok.mod.kin D.T.kC (thn (ha.run pos pins s σ H _ I h) fun us s1 ⟨vs, H1, I1, r1, hz, q1⟩ => ⟨I1.kIn, ?_⟩) he hpl
  show wpAny _ _ (call (.ref C) us) _ _ _
  obtain ⟨hp, gs, dr, tk, os⟩ := s1
  have hq := q1 (hp.objs.size + 1) (I1.hok.fresh (Nat.le_succ _))
  have I2 := exk_laid (C := C) I1 us
  have r2 : Vals (V.ref (hp.objs.size + 1) :: vs) (Value.ref (hp.objs.size + 1) :: us) := .cons rfl r1
  have hl : (Value.ref (hp.objs.size + 1) :: us).length = ps.length := r2.length.symm.trans (D.ok.len _ _ _ _ hq)
  have hus : us.length ≤ sizeLine := by
    rw [← Paired.length r1, sizeLine_eq]
    omega
  have hbd := D.bd _ (Value.ref (hp.objs.size + 1) :: us) I2.kIn (by simpa using hl)
  rw [List.append_nil] at hbd
  refine wpAny_call (exk_call F.excBase_ValueError (fun Y => PySem.HandSPX.refsVE_contains Y bm hbm) (I1.kIn _ _ hC) (PySem.W.looks_findIn I1.kIn D.ini) (fun self => PySem.W.bind_fn I1.kIn self D.ty) hus
    (codeAny_mono (D.ok.run _ X.stack _ _ ⟨Value.ref (hp.objs.size + 1) :: us, []⟩ (Value.ref (hp.objs.size + 1) :: us) _ _ (fun _ _ _ => False) (hr.make C us []) (I2.env0.make C us []) hbd r2 hq) fun r s' hq' => ?_))
  cases r with
  | error er => exact L2.pass0 pins σ _ _ er s' I2 hq'
  | ok fl =>
    cases fl with
    | ret u =>
      obtain ⟨v, H', I3, rv, ev, q3⟩ := I2.after hq'
      subst ev
      exact ⟨rv, ⟨V.ref (hp.objs.size + 1), H', I3, rfl, q3⟩⟩
    | next => exact False.elim hq'
    | brk => exact False.elim hq'
    | cont => exact False.elim hq'
theorem pe_erVK (D : ErrV X.prog X.w X.K X.mg X.base k x C fI fd ps sp) (hb : KBn X.K fd ps 1 ks g gV) (hr : Room (k + 1) X.A) (hkw : PK X kws tk) (hkl : ks.length ≤ 100) (hg : Gl X x := by rfl) (hdb : (x == ("__debug__" : Str)) = false := by decide)
    (hall : (backToKw pos (keywordEach kws X.env)).all (·.1.isSome) = true := by rfl) (hks : (backToKw pos (keywordEach kws X.env)).filterMap (·.1) = ks := by rfl)
    (hpl : ((backTo pos (starEach [] X.env)).any (·.1) || (backToKw pos (keywordEach kws X.env)).any (·.1.isNone)) = false := by rfl) :
    PE X (.Call (.Name x p) [] kws pos) (tErVK C ks.length sp gV tk) := by
  refine ⟨fun pins s σ H Q I h => ?_⟩
  obtain ⟨nm, q, N, bs, bm, sn, sub, ab, col, dd, k0, k1, k2, k3, k5, hC, hbm⟩ := D.T.cls
  refine wpAny_Call_Name_kw (ld_glob I hg D.g ?_ hdb)
  refine PySem.W.callWith_KW0 (h₀ := X.base) I.ok.mod.kin D.T.kC hall ?_ hpl
  refine thn (hkw.run pos pins s σ H _ I h) fun ws s1 ⟨zs, H1, I1, rz, l2, q1⟩ => ⟨I1.kIn, ?_⟩
  rw [hks]
  obtain ⟨hp, gs, dr, tt, os⟩ := s1
  have hq := q1 (hp.objs.size + 1) (I1.hok.fresh (Nat.le_succ _))
  have I2 := exk_laid (C := C) I1 []
  have r1 : Vals [V.ref (hp.objs.size + 1)] [Value.ref (hp.objs.size + 1)] := .cons rfl .nil
  have hwl : ws.length = ks.length := rz.length.symm.trans l2
  have hq0 : sp (gV [.ref (hp.objs.size + 1)] zs) _ _ _ := hq
  refine wpAny_call (exk_call F.excBase_ValueError (fun Y => PySem.HandSPX.refsVE_contains Y bm hbm) (I1.kIn _ _ hC) (PySem.W.looks_findIn I1.kIn D.ini) (fun self => PySem.W.bind_fn I1.kIn self D.ty) (Nat.zero_le _)
    (codeAny_mono (D.ok.run _ X.stack _ _ ⟨[Value.ref (hp.objs.size + 1)], ks.zip ws⟩ (g [Value.ref (hp.objs.size + 1)] ws) _ _ (fun _ _ _ => False) (hr.make C [] (ks.zip ws)) (I2.env0.make C [] (ks.zip ws)) (hb.to _ [Value.ref (hp.objs.size + 1)] ws I2.kIn rfl hwl) (hb.rel r1 rz) hq0) fun r s' hq' => ?_))
  cases r with
  | error er => exact L2.pass0 pins σ _ _ er s' I2 hq'
  | ok fl =>
    cases fl with
    | ret u =>
      obtain ⟨v, H', I3, rv, ev, q3⟩ := I2.after hq'
      subst ev
      exact ⟨rv, ⟨V.ref (hp.objs.size + 1), H', I3, rfl, q3⟩⟩
    | next => exact False.elim hq'
    | brk => exact False.elim hq'
    | cont => exact False.elim hq'
end
/-- C(), no own __init__ -/
def tEr0 (C : Addr) : TE := fun _ H Q => ∀ a, H a = none → Q (.ref a) (upd H a (exo a C none))
section
variable {X : Cx} {C : Addr} {x : Str} {p pos : Pos}
theorem pe_er0 (T : ErrTxt X.K X.mg x C) (hg : Gl X x := by rfl) (hdb : (x == ("__debug__" : Str)) = false := by decide) : PE X (.Call (.Name x p) [] [] pos) (tEr0 C) := by
  refine ⟨fun pins s σ H Q I h => ?_⟩
  refine wpAny_Call_Name_kw (ld_glob I hg T.g ?_ hdb)
  refine PySem.W.callWith_K0 (first := []) I.kIn T.kp ?_
  show wpAny _ _ (call (.ref C) []) _ _ _
  obtain ⟨bm, N, nm, qn, bs, hdct, sn, sub, ab, col, dd, k0, k1, k2, k3, k5, mN, hC, hN, hni, U⟩ := exc_obj I.kIn T.xi
  refine wpAny_call_exc_subT PySem.F.excBase_ValueError U hC hN hni (fun h' e hm => ?_) (Nat.zero_le _)
  obtain ⟨t, ht, _, _⟩ := hm.there
  have hn : H e = none := I.hok.gone hm.new
  exact ⟨.ref e, upd H e (exo e C none), I.laidN hm.keeps hm.new hn (exo_ok ht), rfl, h e hn⟩
end
/-- e.f, e an error that keeps f -/
def tXv (K : PySem.W.Frag) (f : Str) (te : TE) : TE := fun σ H Q => te σ H fun x H1 => ∃ (a C d : Addr) (fs : List (Str × V)) (v : V), x = .ref a ∧ XfC K C ∧ PySem.W.findIn K (.ref C) f = some none ∧ H1 a = some (exo a C (some d)) ∧ H1 d = some (exd d fs) ∧ fs.lookup f = some v ∧ Q v H1
theorem pe_xv {X : Cx} {e : Expr} {te : TE} {pos : Pos} {n : Str} (he : PE X e te) (hb : attributeBase e n X.env (eval e X.env) = eval e X.env := by rfl) : PE X (.Attribute e n pos) (tXv X.K n te) := by
  refine ⟨fun pins s σ H Q I h => ?_⟩
  refine attr_of hb (thn (he.run pins s σ H _ I h) fun u s1 hh => ?_)
  obtain ⟨x, H1, I1, rx, a, C, d, fs, v, ex, T, hno, ea, ed, l, q⟩ := hh
  subst ex
  obtain rfl : u = Value.ref a := rx
  obtain ⟨t1, ha⟩ := exo_at I1.hok ea
  obtain ⟨mA, hns, hr⟩ := exd_at I1.hok ed
  obtain ⟨od, ho, hl⟩ := lookIn_ns hns
  obtain ⟨u, hu, ru⟩ := RelO.some_of (v := v) (o := mA n) (by rw [← l]; exact hr n)
  have J : PySem.W.InstAt s1.heap a _ C (some od) := ⟨ha, rfl, rfl, ho⟩
  exact HandSPX.exc_get I1.kIn J T.ga T.gg T.exC (PySem.W.findObj_own T.hdC hno rfl (by rw [hl, hu])) (handed_of ru) ⟨v, H1, I1.tok _, ru, q⟩
/-! ### isinstance of such an error -/
structure ErrIs (K : PySem.W.Frag) (C : Addr) : Prop where
  cl : (PySem.W.clsIn K C).isSome = true
  ga : PySem.W.findIn K (.ref C) "__getattribute__" = some (some (.builtin "BaseException.__getattribute__"))
  gg : PySem.W.findIn K (.ref C) "__getattr__" = some none
  ex : PySem.W.subIn K (.ref C) (.type "BaseException") = some true
  ca : PySem.W.findIn K (.ref C) "__class__" = some (some (.builtin "object.__class__"))
  ge : PySem.W.specialIn K (.builtin "object.__class__") "__get__" = some (some (.builtin "getset_descriptor.__get__"))
  tk : PySem.W.takesIn K (.builtin "object.__class__") = some true
  ob : PySem.W.mroIn K C (.type "object") = some true
/-- an error, with its dict or without -/
def ExAt (H : Hp) (a C : Addr) : Prop := H a = some (exo a C none) ∨ ∃ d fs, H a = some (exo a C (some d)) ∧ H d = some (exd d fs)
def rIsX (K : PySem.W.Frag) : List V → Hp → VK → Prop := fun xs H Q => ∃ (a C : Addr) (c : V) (u : Value) (b : Bool), xs = [.ref a, c] ∧ ClsV c u ∧ ErrIs K C ∧ ExAt H a C ∧ PySem.W.kitOne K (.ref C) u = some b ∧ Q (.bl b) H
theorem call_isX {X : Cx} : CallR X (.builtin "isinstance") (rIsX X.K) := by
  intro pins s σ H xs us Q I r h
  obtain ⟨a, C, c, u, b, rfl, k, T, ea, e, q⟩ := h
  obtain ⟨u1, u2, rfl, r1, r2⟩ := vals2 r
  obtain rfl : u1 = Value.ref a := r1
  have e2 := k.eq r2
  subst e2
  rcases ea with ea | ⟨d, fs, ea, ed⟩
  · obtain ⟨t1, ha⟩ := exo_at I.hok ea
    have J : PySem.W.InstAt s.heap a _ C none := ⟨ha, rfl, rfl, trivial⟩
    exact PySem.W.kia_one (PySem.W.kitx_exc T.cl T.ga T.gg T.ex T.ca T.ge T.tk T.ob) I.kIn J e (fun z => nomatch z) fun tk => ⟨.bl b, H, I.tok tk, rfl, q⟩
  · obtain ⟨t1, ha⟩ := exo_at I.hok ea
    obtain ⟨mA, hns, hr⟩ := exd_at I.hok ed
    obtain ⟨od, ho, hl⟩ := lookIn_ns hns
    have J : PySem.W.InstAt s.heap a _ C (some od) := ⟨ha, rfl, rfl, ho⟩
    exact PySem.W.kia_one (PySem.W.kitx_exc T.cl T.ga T.gg T.ex T.ca T.ge T.tk T.ob) I.kIn J e (fun z => nomatch z) fun tk => ⟨.bl b, H, I.tok tk, rfl, q⟩
/-! ### a dict is equal to itself -/
theorem kv_keys {κ : Type} {ks : List (κ × V)} {va : List (κ × Value)} (r : KV ks va) : ks.map (·.1) = va.map (·.1) := by
  unfold KV at r
  induction r with
  | nil => rfl
  | cons h t ih => rw [List.map_cons, List.map_cons, h.1, ih]
theorem hits_self {P : Program} {w : World} {A : Around} {s : Shared} {va : List (Key × Value)} (nd : (va.map (·.1)).Nodup) : ∀ r : List (Key × Value), (∀ p ∈ r, p ∈ va) → PySem.W.KeqHitsIn P w A s va r true
  | [], _ => .nil
  | (k, v) :: r, h => by
    have e : PySem.W.KeqHitsIn P w A s va ((k, v) :: r) (true && true) := .hit (PySem.valueAt_of_mem nd (h _ List.mem_cons_self)) ((PySem.SeqAt.EqAt.same _).inModel P w) (hits_self nd r fun p hp => h p (List.mem_cons_of_mem _ hp))
    exact e
def rEqSelf : R2 := fun x y H Q => ∃ a ks, x = .ref a ∧ y = .ref a ∧ H a = some (.dK ks) ∧ (ks.map (·.1)).Nodup ∧ Q (.bl true) H
theorem op_eqSelf {X : Cx} (hu : X.A.units + 1 < cLine) : OpR X (compareOp .Eq) rEqSelf := by
  intro pins s σ H x y v u Q I rx ry h
  obtain ⟨a, ks, rfl, rfl, ea, nd, q⟩ := h
  obtain rfl : v = Value.ref a := rx
  obtain rfl : u = Value.ref a := ry
  obtain ⟨_, ya, va, ra, da⟩ := (show ObjOk X.prog X.w H s.heap a (.dK ks) from I.hok a _ ea)
  have nd2 : (va.map (·.1)).Nodup := by rw [← kv_keys ra]; exact nd
  exact PySem.W.keq_eqIn (knd := mixKind X.prog X.w) (r := true) ya ya da da (by omega) (fun _ => hits_self nd2 va fun p hp => hp) (fin_bl I q (by simp))
end Lm

namespace Lm
open PySem PySem.Spec PyProof.Rows L2
/-! ### a def that calls repr itself: its promise where no repr is under way -/
structure FnOkG (P : Program) (w : World) (K : PySem.W.Frag) (mg : Str → Option Value) (base : Heap) (CX : CXT) (k : Nat) (f : Addr) (fd : FuncData) (ps : List Str) (sp : Sp) : Prop where
  len : ∀ vs H Q E, sp vs H Q E → vs.length = ps.length
  go : ∀ (A : Around), A.guards = some [] → ∀ (out : List Env) (s : Shared) (H : Hp) (args : Args) (us : List Value) (vs : List V) (Q : VK) (E : XK),
    Room k A → Env0 P w K mg base A out s H → BindsTo s fd args (ps.zip us) → Vals vs us → sp vs H Q E → codeAny (model P w) A (.call (.ref f) args) (CR CX out P w H s Q E) s
section
variable {CX : CXT} {P : Program} {w : World} {K : PySem.W.Frag} {mg : Str → Option Value} {base : Heap} {k : Nat} {f : Addr} {sp : Sp}
theorem FnOkG.of_def {nm ql : Str} {pa : Arguments} {bd : List Stmt} {sc : Scope} {dV kV doc pm cdv ct oc : Value} {an od : Option Addr} {sl : Array (Option Value)} {N ps : List Str}
    (lk : K.lookup f = some ⟨oc, od, .func (PySem.W.fnOf nm ql pa bd sc dV kV doc pm an cdv ct), sl⟩) (hc : PySem.W.codeIn K cdv ql = true) (S : FnScope N ps sc) (len : ∀ vs H Q E, sp vs H Q E → vs.length = ps.length)
    (hb : ∀ (A : Around), A.guards = some [] → ∀ (out : List Env) (s : Shared) (H : Hp) (vs : List V) (Q : VK) (E : XK), Room k (A.deeper (envOfC ql sc s.heap.objs.size f cdv)) → sp vs H Q E →
      ∃ t, PSs (cxOf CX P w K mg base N ql sc f cdv A out s H E) bd t ∧ t { nx := fun _ H' => Q .non H', rt := Q } (L2.start N vs) H) :
    FnOkG P w K mg base CX (k + 1) f (PySem.W.fnOf nm ql pa bd sc dV kV doc pm an cdv ct) ps sp where
  len := len
  go A hg out s H args us vs Q E hr e0 hbi r h := by
    have kept : ∀ b o, base.get? b = some o → s.heap.get? b = some o := fun b o e => (e0.bs b o e).1
    have local_ : ∀ y ∈ ps.zip us, sc.names.lookup y.1 = some .local ∨ (sc.names.lookup y.1 = some .cell ∧ ((cellsFrom (s.heap.objs.size + 1) sc.names []).lookup y.1).isSome = true) := by
      intro y hy
      have hm : y.1 ∈ ps := (List.of_mem_zip (a := y.1) (b := y.2) hy).1
      exact (S.par y.1 hm).elim .inl fun q => .inr ⟨q, PySem.W.cellsFrom_some _ _ _ (.inl q)⟩
    refine codeAny_call_function hr.depth (e0.mod.kin.keeps kept _ _ lk) rfl S.co S.gen rfl (PySem.W.codeRec_of (e0.mod.kin.keeps kept) hc) (hbi _ _ _ _ ?_)
    refine wpAny_newFunctionEnv_cells S.kind local_ ?_
    intro env he s1 x
    subst he
    obtain ⟨t, ht, hq⟩ := hb A hg out s H vs Q E (hr.deeper _) h
    refine ⟨(e0.mod.nolimit.keeps kept).keeps x.toInCall.keep, codeAny_func (wpAny_mono (ht.run [] s1 (L2.start N vs) H _ (inv_start S hr.hd e0 (len _ _ _ _ h) r x) hq) ?_ fun _ _ z => z)⟩
    intro fl s' hs
    cases fl with
    | brk => obtain ⟨_, _, _, q⟩ := hs; exact q.elim
    | cont => obtain ⟨_, _, _, q⟩ := hs; exact q.elim
    | ret u => obtain ⟨v, σ', H', J, rv, q⟩ := hs; exact ⟨v, H', J.os, J.bare, J.base, J.hok, rv, q⟩
    | next => obtain ⟨σ', H', J, q⟩ := hs; exact ⟨.non, H', J.os, J.bare, J.base, J.hok, rfl, q⟩
theorem Fun.okG {x ql : Str} {st : Stmt} {fd : FuncData} {N ps : List Str} (F : L2.Fun K x ql st f fd) (S : FnScope N ps (defScope st)) (len : ∀ vs H Q E, sp vs H Q E → vs.length = ps.length)
    (hb : ∀ (cdv : Value) (A : Around), A.guards = some [] → ∀ (out : List Env) (s : Shared) (H : Hp) (vs : List V) (Q : VK) (E : XK), Room k (A.deeper (envOfC ql (defScope st) s.heap.objs.size f cdv)) → sp vs H Q E →
      ∃ t, PSs (cxOf CX0 P w K mg base N ql (defScope st) f cdv A out s H E).nox (defBody st) t ∧ t { nx := fun _ H' => Q .non H', rt := Q } (L2.start N vs) H) : FnOkG P w K mg base CX0 (k + 1) f fd ps sp := by
  obtain ⟨_, _, _, _, _, _, cdv, _, _, rfl, lk, hc⟩ := F.ex
  exact .of_def lk hc S len fun A hg out s H vs Q E hr h => let ⟨t, a, b⟩ := hb cdv A hg out s H vs Q E hr h; ⟨t, a.nox, b⟩
theorem FnOkG.mono {j : Nat} {fd : FuncData} {ps : List Str} (F : FnOkG P w K mg base CX j f fd ps sp) (h : j ≤ k) : FnOkG P w K mg base CX k f fd ps sp := ⟨F.len, fun A hg out s H args us vs Q E hr => F.go A hg out s H args us vs Q E (hr.mono h)⟩
end
/-! ### the law's call -/
/-- what is tracked behind the top: the script, where it is no object of K, and the tables of code objects -/
def hpL (K : PySem.W.Frag) (a : Addr) (it : List V) (ob : Obj) (T : List Addr) : Hp := fun c =>
  if c ∈ T then some (.tbl #[]) else if c = a ∧ K.lookup a = none then some (.frz ob (.lst it)) else none
section
variable {K : PySem.W.Frag} {a c : Addr} {it : List V} {ob : Obj} {T : List Addr}
theorem hpL_T (h : c ∈ T) : hpL K a it ob T c = some (.tbl #[]) := if_pos h
theorem hpL_a (h : a ∉ T) (hk : K.lookup a = none) : hpL K a it ob T a = some (.frz ob (.lst it)) := (if_neg h).trans (if_pos ⟨rfl, hk⟩)
theorem hpL_cases (K : PySem.W.Frag) (a : Addr) (it : List V) (ob : Obj) (T : List Addr) (c : Addr) : (c ∈ T ∧ hpL K a it ob T c = some (.tbl #[])) ∨ (c = a ∧ a ∉ T ∧ K.lookup a = none ∧ hpL K a it ob T c = some (.frz ob (.lst it))) ∨ hpL K a it ob T c = none := by
  by_cases h : c ∈ T
  · exact .inl ⟨h, hpL_T h⟩
  · by_cases h2 : c = a ∧ K.lookup a = none
    · obtain ⟨rfl, hk⟩ := h2
      exact .inr (.inl ⟨rfl, h, hk, hpL_a h hk⟩)
    · exact .inr (.inr ((if_neg h).trans (if_neg h2)))
end
theorem FnOkG.law {P : Program} {w : World} {K : PySem.W.Frag} {mg mb : Str → Option Value} {CX : CXT} {k : Nat} {fa a : Addr} {cs : List (Addr × Addr)} {fd : FuncData} {x : Str} {sp : Sp} {s₁ : Shared} {us : List Value} {ns : List Int}
    (KX : K.In s₁.heap) (hns : s₁.heap.Ns mainGlobals mg) (hb : s₁.heap.Ns builtinsNs mb) (hbb : ∀ x : Str, x ≠ "__name__" → mb x = bootBuiltins x) (hlim : s₁.heap.NoLimit) (hg : s₁.gens = #[])
    (hT : ∀ p ∈ cs, s₁.heap.get? p.2 = some { cls := .none, data := .fields #[] }) (nT : ∀ p ∈ cs, K.lookup p.2 = none) (hC : ∀ p ∈ cs, PySem.W.CodeHd s₁.heap p.1 p.2)
    (hbm : ∃ (bm : Addr) (o : Obj), mg "__builtins__" = some (.ref bm) ∧ bm ≠ builtinsNs ∧ s₁.heap.get? bm = some o ∧ o.cls = .type "module" ∧ o.dict = some builtinsNs ∧ o.data = .plain)
    (ha : s₁.heap.get? a = some { cls := .type "list", data := .seq us.toArray }) (hi : IntsAre us ns) (hl : ns.length ≤ sizeLine) (hr : Room k callerA)
    (F : ∀ b : Heap, K.In b → b.Ns mainGlobals mg → (∀ p ∈ cs, LamX.TabB b mg p.1 p.2) → FnOkG P w K mg b CX k fa fd [x] sp) (hbi : ∀ (s : Shared) (u : Value), BindsTo s fd ⟨[u], []⟩ [(x, u)])
    (hsp : ∀ H : Hp, (∀ p ∈ cs, H p.2 = some (.tbl #[])) → SqL K H a (ns.map V.int) → sp [.ref a] H (fun v _ => v = .bl true) fun _ _ _ => False)
    (hCX : ∀ H e s', CX [] H s₁ (fun _ _ _ => False) e s' → False) :
    codeAny (model P w) callerA (.call (.ref fa) ⟨[.ref a], []⟩) (fun r s' => r = .ok (.ret (.bool true)) ∧ OldK s₁.heap s'.heap ∧ s'.os = s₁.os ∧ AllBare s'.gens) s₁ := by
  let T := cs.map Prod.snd
  let ob : Obj := { cls := .type "list", data := .seq us.toArray }
  let H : Hp := hpL K a (ns.map V.int) ob T
  have rv : Vals (ns.map V.int) us := vals_ints hi
  have lu : us.length = ns.length := hi.length
  have inT : ∀ {c}, c ∈ T → ∃ p ∈ cs, p.2 = c := fun hc => List.mem_map.mp hc
  have ofT : ∀ p ∈ cs, p.2 ∈ T := fun p hp => List.mem_map.mpr ⟨p, hp, rfl⟩
  have tab : ∀ {c}, c ∈ T → s₁.heap.get? c = some { cls := .none, data := .fields #[] } := fun hc => let ⟨p, hp, e⟩ := inT hc; e ▸ hT p hp
  have naT : a ∉ T := fun z => by
    have e := (tab z).symm.trans ha
    have e : Data.fields #[] = Data.seq us.toArray _ := congrArg Obj.data (Option.some.inj e)
    cases e
  -- an object that is neither the script nor a table is not tracked
  have free : ∀ {c : Addr} {o : Obj}, s₁.heap.get? c = some o → (∀ v n, o.data ≠ .seq v n) → o.data ≠ .fields #[] → H c = none := fun {c o} e h1 h2 => by
    rcases hpL_cases K a (ns.map V.int) ob T c with ⟨hc, _⟩ | ⟨rfl, _⟩ | z
    · have := (tab hc).symm.trans e
      cases this
      exact (h2 rfl).elim
    · have := ha.symm.trans e
      cases this
      exact (h1 _ _ rfl).elim
    · exact z
  have freeK : ∀ {c : Addr} {o : Obj}, K.lookup c = some o → H c = none := fun {c o} e => by
    rcases hpL_cases K a (ns.map V.int) ob T c with ⟨hc, _⟩ | ⟨rfl, _, hk, _⟩ | z
    · obtain ⟨p, hp, rfl⟩ := inT hc
      have := (nT p hp).symm.trans e
      cases this
    · have := hk.symm.trans e
      cases this
    · exact z
  have bas : ∀ {c : Addr} {o : Obj}, s₁.heap.get? c = some o → H c = none → (hidT s₁.heap H).get? c = some o := fun e n => hidT_get e n
  have bDict : ∀ {c : Addr} {m : Str → Option Value}, s₁.heap.Ns c m → (hidT s₁.heap H).Ns c m := by
    rintro c m ⟨o, es, ep, e, d, r⟩
    exact ⟨o, es, ep, bas e (free e (fun _ _ z => by rw [d] at z; cases z) fun z => by rw [d] at z; cases z), d, r⟩
  have inK : K.In (hidT s₁.heap H) := fun c o e => bas (KX c o e) (freeK e)
  have hMod : L2.Mod K mg (hidT s₁.heap H) := by
    obtain ⟨mc, l1, l2⟩ := hlim
    exact ⟨inK, bDict hns, ⟨mb, bDict hb, hbb⟩, ⟨mc, bDict l1, l2⟩⟩
  have hok : HOk P w H s₁.heap := fun c u z => by
    rcases hpL_cases K a (ns.map V.int) ob T c with ⟨hc, e⟩ | ⟨rfl, _, _, e⟩ | e
    · have := e.symm.trans z
      cases this
      exact tab hc
    · have := e.symm.trans z
      cases this
      exact ⟨ha, by rw [List.length_map]; exact hl, us, _, rv, ha⟩
    · have := e.symm.trans z
      cases this
  have hS : SqL K H a (ns.map V.int) := by
    cases hk : K.lookup a with
    | none => exact .inl (.inr ⟨ob, hpL_a naT hk⟩)
    | some o =>
      have := (KX a o hk).symm.trans ha
      cases this
      exact .inr ⟨_, us.toArray, _, hk, rfl, rfl, rfl, by rw [List.size_toArray, lu]; exact hl, by simpa using rv⟩
  have tabs : ∀ p ∈ cs, LamX.TabB (hidT s₁.heap H) mg p.1 p.2 := fun p hp => by
    have tp := hT p hp
    have gl : ∀ {o : Obj}, s₁.heap.get? p.2 = some o → (∀ es n, o.data ≠ .dict es n) := fun e es n z => by
      have := tp.symm.trans e
      cases this
      cases z
    refine ⟨?_, ?_, fun z => ?_⟩
    · obtain ⟨o, vs, file, tf, fl, tg, nF, tx, tt, q⟩ := hC p hp
      exact ⟨o, vs, file, tf, fl, tg, nF, tx, tt, bas q.1 (free q.1 (fun _ _ z => by rw [q.2.2.1] at z; cases z) fun z => by
        have z' : Data.fields vs = Data.fields #[] := q.2.2.1.symm.trans z
        cases z'
        have := q.2.2.2.1
        simp at this), q.2⟩
    · obtain ⟨bm, o, q⟩ := hbm
      have hd : o.data = .plain := q.2.2.2.2.2
      have n1 : bm ≠ mainGlobals := fun z => by
        obtain ⟨o', es, ep, e, d, _⟩ := hns
        have := (z ▸ e).symm.trans q.2.2.1
        cases this
        rw [hd] at d
        cases d
      have n2 : bm ≠ p.2 := fun z => by
        have := (z ▸ tp).symm.trans q.2.2.1
        cases this
        cases hd
      exact ⟨bm, o, q.1, q.2.1, n1, n2, bas q.2.2.1 (free q.2.2.1 (fun _ _ z => by rw [hd] at z; cases z) fun z => by rw [hd] at z; cases z), q.2.2.2⟩
    · obtain ⟨o, es, ep, e, d, _⟩ := hns
      exact gl (z ▸ e) es ep d
  have e0 : Env0 P w K mg (hidT s₁.heap H) callerA [] s₁ H := ⟨rfl, hMod, fun c o e => of_hidT e, Nat.le_of_eq (hidT_size _ _), trivial, (fun c hc => by simp [frs] at hc), hok, .of_eq hg⟩
  refine codeAny_mono ((F _ inK (bDict hns) tabs).go callerA rfl [] s₁ H ⟨[.ref a], []⟩ [.ref a] [.ref a] _ _ hr e0 (hbi s₁ _) (.cons rfl .nil) (hsp H (fun p hp => hpL_T (ofT p hp)) hS)) ?_
  intro r s' h
  cases r with
  | error e => exact (hCX H e s' h).elim
  | ok fl =>
    cases fl with
    | ret u =>
      obtain ⟨v, H', os, bare, un, hok', r', rfl⟩ := h
      obtain rfl : u = Value.bool true := r'
      have grown : ∀ c ∈ T, ∃ more : Array Value, s'.heap.get? c = some { cls := .none, data := .fields more } := fun c hc => let ⟨_, z⟩ := un.tbls c #[] (hpL_T hc); ⟨_, hok' c _ z⟩
      have same : ∀ c o, c ∉ T → s₁.heap.get? c = some o → s'.heap.get? c = some o := fun c o nc e => by
        rcases hpL_cases K a (ns.map V.int) ob T c with ⟨hc, _⟩ | ⟨rfl, _, _, z⟩ | z
        · exact absurd hc nc
        · have g := (hok' c _ (un.frzs c _ _ z)).1
          rw [ha] at e
          cases e
          exact g
        · exact un.keep c o e z (by simp [frs]) (by simp)
      refine ⟨rfl, ⟨fun c o e => ?_, fun c o e => ?_⟩, os, bare⟩
      · by_cases hc : c ∈ T
        · obtain ⟨m, hm⟩ := grown c hc
          have e2 := (tab hc).symm.trans e
          cases e2
          obtain ⟨p, hp, rfl⟩ := inT hc
          exact .inr (.inl ⟨((hC p hp).tab (hT p hp)).isCodeTable, rfl, #[], m, rfl, by rw [Array.empty_append]; exact hm⟩)
        · exact .inl (same c o hc e)
      · by_cases hc : c ∈ T
        · exact let ⟨_, hm⟩ := grown c hc; ⟨_, hm⟩
        · exact ⟨o, same c o hc e⟩
    | _ => exact h.elim
/-- the end of a law whose def calls repr, over a head by facts, with tables of code objects -/
theorem walkG {l : PySem.W.OpenLaw} {n k : Nat} {q : Program} {loose : List Str} {XP : (Str → Option Value) → Heap → Prop} {YP : World → Heap → Prop} {d : DefRec} {x : Str}
    (hn : l.most = some n) (hn2 : n ≤ sizeLine) (hdf : d.params.defaults = []) (hr : Room k callerA)
    (F : ∀ (w : World) (mg : Str → Option Value) (fa : Addr) (h : Heap), YP w h → h.Ns mainGlobals mg → mg d.name = some (.ref fa) →
      ∃ (K : PySem.W.Frag) (fd : FuncData) (cs : List (Addr × Addr)) (sp : Sp), K.In h ∧ (∀ p ∈ cs, h.get? p.2 = some { cls := .none, data := .fields #[] }) ∧ (∀ p ∈ cs, K.lookup p.2 = none) ∧ (∀ p ∈ cs, PySem.W.CodeHd h p.1 p.2) ∧ (∀ (s : Shared) (u : Value), BindsTo s fd ⟨[u], []⟩ [(x, u)]) ∧
        (∀ (H : Hp) (a : Addr) (ns : List Int), ns.length ≤ n → (∀ z ∈ ns, Builtin.Int.intBits z ≤ 1048576) → (∀ p ∈ cs, H p.2 = some (.tbl #[])) → SqL K H a (ns.map V.int) → sp [.ref a] H (fun v _ => v = .bl true) fun _ _ _ => False) ∧
        ∀ b : Heap, K.In b → b.Ns mainGlobals mg → (∀ p ∈ cs, LamX.TabB b mg p.1 p.2) → FnOkG l.prog w K mg b CX0 k fa fd [x] sp) :
    PySem.W.WalkO q loose XP YP l.row.toRowW d [] (fun f vs => PySem.call f vs) := by
  refine Att.attach_callB hn hdf ?_
  intro w s₀ s₁ mg mb fa o pm cd doc a vs ns G Y ho hd hcd hmg hobj hints hlen hbits hg
  obtain ⟨K, fd, cs, sp, KX, hT, nT, C, hb, hsp, hF⟩ := F w mg fa _ Y G.T.g hmg
  exact FnOkG.law KX G.T.g G.T.b G.T.builtins G.T.nolimit hg hT nT C G.T.bmain hobj hints (Nat.le_trans hlen hn2) hr hF hb (fun H hH hS => hsp H a ns hlen hbits hH hS) fun _ _ _ z => z
end Lm

namespace Lm
open PySem PySem.Spec PyProof.Rows L2
/-! ### repr(x) of nested data without dicts, where no repr is under way -/
mutual
theorem Dp.noDict {K : PySem.W.Frag} {H : Hp} : ∀ (d : PyData) (v : V), Dp K H v d → d.hasDict = false
  | .none, _, _ => rfl
  | .bool _, _, _ => rfl
  | .int _, _, _ => rfl
  | .str _, _, _ => rfl
  | .list ds, _, h => by
    cases h with
    | lst _ ha => exact Dp.noDictAll ds _ ha
  | .tuple ds, _, h => by
    cases h with
    | tup _ ha => exact Dp.noDictAll ds _ ha
  | .dict _, _, h => by cases h
theorem Dp.noDictAll {K : PySem.W.Frag} {H : Hp} : ∀ (ds : List PyData) (vs : List V), DpAll K H vs ds → PyData.hasDictAll ds = false
  | [], _, _ => rfl
  | d :: ds, _, h => by
    cases h with
    | cons h1 h2 =>
      show (d.hasDict || PyData.hasDictAll ds) = false
      rw [Dp.noDict d _ h1, Dp.noDictAll ds _ h2]
      rfl
end
/-- what repr reads: an object whose text can be written -/
def rRepr (K : PySem.W.Frag) : List V → Hp → VK → Prop := fun xs H Q => ∃ (a : Addr) (d : PyData), xs = [.ref a] ∧ Dp K H (.ref a) d ∧ d.showable = true ∧ d.depth ≤ 50 ∧ d.shown.length ≤ sizeLine ∧ Q (.str d.shown) H
section
variable {X : Cx}
theorem cr_repr (hg : X.A.guards = some []) (hu : X.A.units + 64 < cLine) : CallR X (.builtin "repr") (rRepr X.K) := by
  intro pins s σ H xs us Q I r h
  obtain ⟨a, d, rfl, hd, hs, hdep, hsz, q⟩ := h
  rw [Vals.ref1 r]
  obtain ⟨as, rd⟩ := Dp.reads I d _ (.ref a) hd rfl
  exact PySem.repr_of_reads' rd hs (fun z => by rw [Dp.noDict d _ hd] at z; cases z) hg (by omega) (fun _ _ e => e) (fun h' u tk hk => ⟨.str d.shown, H, I.kept hk, ⟨u, rfl⟩, q⟩) hsz
end
end Lm

namespace Lm
open PySem PySem.Spec PyProof.Rows L2
/-! ### how long the text of nested data is -/
structure ShOk (d : PyData) (k m : Nat) : Prop where
  s : d.showable = true
  dep : d.depth ≤ k
  lv : d.leavesShort 100 = true
  w : d.weight ≤ m
theorem ShOk.mono {d : PyData} {k m k' m' : Nat} (h : ShOk d k m) (hk : k ≤ k') (hm : m ≤ m') : ShOk d k' m' := ⟨h.s, Nat.le_trans h.dep hk, h.lv, Nat.le_trans h.w hm⟩
theorem ShOk.fit {d : PyData} {k m : Nat} (h : ShOk d k m) (hm : m ≤ 160000) : d.shown.length ≤ sizeLine := by
  have q := PyData.shown_le 100 (by decide) d h.lv
  have hw := h.w
  have e : sizeLine = 16777216 := by decide
  have : (100 + 2) * d.weight ≤ 102 * 160000 := Nat.mul_le_mul_left _ (Nat.le_trans hw hm)
  omega
theorem ShOk.none : ShOk .none 0 0 := ⟨rfl, Nat.le_refl _, rfl, Nat.le_refl _⟩
theorem ShOk.bool {b : Bool} : ShOk (.bool b) 0 0 := ⟨rfl, Nat.le_refl _, rfl, Nat.le_refl _⟩
theorem ShOk.int {i : Int} (h : i.natAbs < 2 ^ 64) : ShOk (.int i) 0 65 := by
  have h2 : i.natAbs.log2 < 64 := by
    rcases Nat.eq_zero_or_pos i.natAbs with z | z
    · rw [z]
      decide
    · exact (Nat.log2_lt (by omega)).mpr h
  refine ⟨decide_eq_true (show i.natAbs.log2 < 1920 by omega), Nat.le_refl _, ?_, ?_⟩
  · show decide ((PyData.shown (.int i)).length ≤ 100) = true
    have := int_text_length_le (a := i) (k := 64) (by decide) h2
    refine decide_eq_true ?_
    show (Str.ofString (toString i)).length ≤ 100
    rw [PySem.ofString_length]
    omega
  · show (if (i == 0) = true then 0 else i.natAbs.log2 + 1) ≤ 65
    split
    · omega
    · omega
theorem ShOk.str {x : Str} (h : (x.cps.toList.all fun c => decide (c < 16 ^ 8)) = true) : ShOk (.str x) 0 x.cps.size := ⟨rfl, Nat.le_refl _, h, Nat.le_refl _⟩
theorem ShOk.all {k m : Nat} : ∀ {ds : List PyData}, (∀ d ∈ ds, ShOk d k m) → PyData.showableAll ds = true ∧ PyData.depthAll ds ≤ k ∧ PyData.leavesShortAll 100 ds = true ∧ PyData.weightAll ds ≤ ds.length * (m + 1)
  | [], _ => ⟨rfl, Nat.zero_le _, rfl, Nat.zero_le _⟩
  | d :: r, h => by
    obtain ⟨a, b, c, e⟩ := ShOk.all (ds := r) fun x hx => h x (List.mem_cons_of_mem _ hx)
    have q := h d List.mem_cons_self
    refine ⟨?_, ?_, ?_, ?_⟩
    · show (d.showable && PyData.showableAll r) = true
      rw [q.s, a]
      rfl
    · show max d.depth (PyData.depthAll r) ≤ k
      have := q.dep
      omega
    · show (d.leavesShort 100 && PyData.leavesShortAll 100 r) = true
      rw [q.lv, c]
      rfl
    · show d.weight + 1 + PyData.weightAll r ≤ (r.length + 1) * (m + 1)
      have := q.w
      rw [Nat.add_mul]
      omega
theorem ShOk.seq {k m : Nat} {ds : List PyData} (b : Bool) (h : ∀ d ∈ ds, ShOk d k m) : ShOk (if b = true then .list ds else .tuple ds) (k + 1) (ds.length * (m + 1)) := by
  obtain ⟨h1, h2, h3, h4⟩ := ShOk.all h
  cases b
  · exact ⟨h1, Nat.succ_le_succ h2, h3, h4⟩
  · exact ⟨h1, Nat.succ_le_succ h2, h3, h4⟩
theorem Dp.seq {K : PySem.W.Frag} {H : Hp} {a : Addr} {xs : List V} {ds : List PyData} (b : Bool) (h : if b = true then H a = some (.lst xs) else H a = some (.tup xs)) (hd : DpAll K H xs ds) : Dp K H (.ref a) (if b = true then .list ds else .tuple ds) := by
  cases b
  · exact .tup (.inl (.inl h)) hd
  · exact .lst (.inl (.inl h)) hd
end Lm

namespace Lm
open PySem PySem.Spec PyProof.Rows L2
/-! ### repr of a row whose things may be flat dicts, too -/
def flD : V → Option PyData
  | .non => some .none
  | .bl b => some (.bool b)
  | .int i => some (.int i)
  | .str x => some (.str x)
  | _ => none
def keyD : Key → PyData
  | .inl i => .int i
  | .inr x => .str x
/-- a dict with flat values, read -/
inductive DkFl : List (Key × V) → List (PyData × PyData) → Prop
  | nil : DkFl [] []
  | cons {k : Key} {v : V} {d : PyData} {l : List (Key × V)} {m : List (PyData × PyData)} : flD v = some d → DkFl l m → DkFl ((k, v) :: l) ((keyD k, d) :: m)
/-- a thing: nested data without dicts, or a dict with flat values -/
def ItD (K : PySem.W.Frag) (H : Hp) (v : V) (d : PyData) : Prop := Dp K H v d ∨ ∃ a kvs m, v = .ref a ∧ H a = some (.dK kvs) ∧ DkFl kvs m ∧ d = .dict m
theorem flD_reads {h : Heap} {v : V} {u : Value} {d : PyData} (e : flD v = some d) (r : RelV v u) : Reads h u d [] := by
  cases v with
  | non => cases e; cases r; exact .none
  | bl b => cases e; cases r; exact .bool b
  | int i => cases e; obtain ⟨t, rfl⟩ := r; exact .int i t
  | str x => cases e; obtain ⟨t, rfl⟩ := r; exact .str x t
  | _ => cases e
theorem dkFl_reads {P : Program} {w : World} {h : Heap} : ∀ {kvs : List (Key × V)} {m : List (PyData × PyData)} {vs : List (Key × Value)} {es : List DictEntry}, DkFl kvs m → KV kvs vs → Pairs (mixKind P w) es vs →
    ReadsAll h (es.map (·.key)) (m.map (·.1)) [] ∧ ReadsAll h (es.map (·.val)) (m.map (·.2)) []
  | _, _, _, _, .nil, .nil, .nil => ⟨.nil, .nil⟩
  | _, _, _, _, .cons (k := k) e f, .cons ⟨q1, q2⟩ t, .cons (e := en) a b c => by
    obtain ⟨r1, r2⟩ := dkFl_reads (h := h) f t c
    have kr : Reads h en.key (keyD k) [] := by
      rcases keyIs_shape a with ⟨i, t, h1, h2⟩ | ⟨x, t, h1, h2⟩
      · rw [h2, show k = Sum.inl i from (show k = _ from q1).trans h1]
        exact .int i t
      · rw [h2, show k = Sum.inr x from (show k = _ from q1).trans h1]
        exact .str x t
    have vr := flD_reads (h := h) (u := en.val) e (by rw [b]; exact q2)
    exact ⟨.cons kr r1, .cons vr r2⟩
theorem ItD.reads {X : Cx} {pins : List (Addr × Obj)} {σ : L2.St} {H : Hp} {s : Shared} (I : Inv X pins σ H s) {v : V} {d : PyData} {u : Value} (h : ItD X.K H v d) (r : RelV v u) : ∃ as, Reads s.heap u d as ∧ (d.hasDict = true → sysModules ∉ as) := by
  rcases h with h | ⟨a, kvs, m, rfl, ha, hf, rfl⟩
  · obtain ⟨as, q⟩ := Dp.reads I d _ u h r
    exact ⟨as, q, fun z => by rw [Dp.noDict d _ h] at z; cases z⟩
  · cases r
    obtain ⟨_, hs, vs, hkv, o, es, ep, g1, g2, g3, _, g5, _⟩ := dk_of I.hok ha
    obtain ⟨r1, r2⟩ := dkFl_reads (h := s.heap) hf hkv g5
    exact ⟨_, Reads.dict g1 g2.1 g3 r1 r2, fun _ z => by
      have z : sysModules ∈ [a] := z
      rw [List.mem_singleton] at z
      rw [z] at hs
      simp at hs⟩
/-- all things of a row, for repr -/
theorem row_reprK {X : Cx} {pins : List (Addr × Obj)} {σ : L2.St} {H : Hp} {s : Shared} (I : Inv X pins σ H s) : ∀ {xs : List V} {ds : List PyData} {us : List Value}, Paired (fun x d => ItD X.K H x d) xs ds → Vals xs us → PyData.showableAll ds = true → (∀ t ∈ PyData.shownAll ds, t.length ≤ sizeLine) →
    ∃ as bs, ReadsAll s.heap us ds as ∧ ReadAtMost s.heap (PyData.depthAll ds) bs ∧ ReprAllK X.prog X.w bs s.heap (PyData.depthAll ds) us (PyData.shownAll ds)
  | _, _, _, .nil, .nil, _, _ => ⟨[], [], .nil, (fun _ h => nomatch h), .nil⟩
  | _ :: _, d :: ds, _ :: _, .cons h1 h2, .cons r1 r2, hs, hz => by
    have hs' : d.showable = true ∧ PyData.showableAll ds = true := by simpa [PyData.showableAll] using hs
    obtain ⟨a1, q1, q2⟩ := ItD.reads I h1 r1
    obtain ⟨b1, m1, k1⟩ := ReprK.of_reads (prog := X.prog) (w := X.w) q1 hs'.1 q2 (hz _ (by simp only [PyData.shownAll]; exact List.mem_cons_self ..))
    obtain ⟨a2, b2, q3, m2, k2⟩ := row_reprK I h2 r2 hs'.2 fun t ht => hz t (by simp only [PyData.shownAll]; exact List.mem_cons_of_mem _ ht)
    refine ⟨_, b1 ++ b2, .cons q1 q3, ?_, ?_⟩
    · intro b hm
      rcases List.mem_append.mp hm with hm | hm
      · exact (m1.mono (Nat.le_max_left _ _)) b hm
      · exact (m2.mono (Nat.le_max_right _ _)) b hm
    · exact .cons ((k1.more fun b hb => List.mem_append_left _ hb).level_le (Nat.le_max_left _ _)) (k2.more_le (fun b hb => List.mem_append_right _ hb) (Nat.le_max_right _ _))
def seqD' (b : Bool) (ds : List PyData) : PyData := if b = true then .list ds else .tuple ds
/-- what repr reads of a row: a list or a tuple of things -/
def rReprI (K : PySem.W.Frag) : List V → Hp → VK → Prop := fun xs H Q => ∃ (a : Addr) (b : Bool) (ys : List V) (ds : List PyData), xs = [.ref a] ∧ (if b = true then H a = some (.lst ys) else H a = some (.tup ys)) ∧ Paired (fun x d => ItD K H x d) ys ds ∧ (seqD' b ds).showable = true ∧ (seqD' b ds).depth ≤ 50 ∧ (seqD' b ds).shown.length ≤ sizeLine ∧ Q (.str (seqD' b ds).shown) H
section
variable {X : Cx}
theorem cr_reprI (hg : X.A.guards = some []) (hu : X.A.units + 64 < cLine) : CallR X (.builtin "repr") (rReprI X.K) := by
  intro pins s σ H xs us Q I r h
  obtain ⟨a, b, ys, ds, rfl, ha, hp, hs, hdep, hsz, q⟩ := h
  rw [Vals.ref1 r]
  have fin : ∀ (h' : Heap) (u tk : Tok), (∀ b o, s.heap.get? b = some o → h'.get? b = some o) → EP X pins σ Q (.str (seqD' b ds).shown u) { s with heap := h', toks := tk } := fun h' u tk hk => ⟨.str (seqD' b ds).shown, H, I.kept hk, ⟨u, rfl⟩, q⟩
  cases b with
  | true =>
    have ha : H a = some (.lst ys) := ha
    obtain ⟨its, rv, ⟨o, n, ho, hc, _, hd⟩, _⟩ := I.list (SqL.of ha)
    have hsz' : (listText (PyData.shownAll ds)).length ≤ sizeLine := hsz
    have hs' : PyData.showableAll ds = true := hs
    obtain ⟨as, bs, q1, q2, q3⟩ := row_reprK I hp rv hs' fun t ht => Nat.le_trans (listText_mem_le ht) hsz'
    have hna : a ∉ bs := not_mem_of_deeper (Reads.list ho hc hd q1) (by show _ < PyData.depthAll ds + 1; omega) q2
    have hdep' : PyData.depthAll ds + 1 ≤ 50 := hdep
    refine call_repr_slot (by omega) ⟨o, ho, hc⟩ F.slot_list_repr.toG ?_
    cases its with
    | nil =>
      cases q1
      exact call_list_repr_empty ⟨o, ho, hc⟩ ho hd ⟨_, _, rfl, fin s.heap _ _ fun _ _ e => e⟩
    | cons x l => exact call_list_reprK ho hc hd hna (by simpa using q3.length_eq) (fun i y e => q3.item i y (by simpa using e)) (show X.A.in1.guards = some [] from hg) (fun b _ => Clear.nil b) (by show X.A.units + 1 + _ < _; omega) (fun _ _ e => e) (fun h' u tk hk => ⟨_, _, rfl, fin h' u tk hk⟩) hsz'
  | false =>
    have ha : H a = some (.tup ys) := ha
    obtain ⟨its, rv, ⟨o, ho, hc, n, hd⟩, _⟩ := I.tuple (SqT.of ha)
    have hsz' : (tupleText (PyData.shownAll ds)).length ≤ sizeLine := hsz
    have hs' : PyData.showableAll ds = true := hs
    obtain ⟨as, bs, q1, q2, q3⟩ := row_reprK I hp rv hs' fun t ht => Nat.le_trans (tupleText_mem_le ht) hsz'
    have hna : a ∉ bs := not_mem_of_deeper (Reads.tuple ho hc hd q1) (by show _ < PyData.depthAll ds + 1; omega) q2
    have hdep' : PyData.depthAll ds + 1 ≤ 50 := hdep
    refine call_repr_slot (by omega) ⟨o, ho, hc⟩ F.slot_tuple_repr ?_
    exact call_tuple_reprK ho hc hd hna q3 (show X.A.in1.guards = some [] from hg) (fun b _ => Clear.nil b) (by show X.A.units + 1 + _ < _; omega) (fun _ _ e => e) (fun h' u tk hk => ⟨_, _, rfl, fin h' u tk hk⟩) hsz'
end
end Lm

namespace Lm
open PySem PySem.Spec PyProof.Rows L2 PySem.SeqAt
/-! ### a text in a list of things of any kind -/
def OddV (H : Hp) (v : V) : Prop := flatV v = true ∨ ∃ a, v = .ref a ∧ ((∃ ys, H a = some (.lst ys)) ∨ (∃ ys, H a = some (.tup ys)) ∨ ∃ ks, H a = some (.dK ks))
section
variable {A : Around} {s : Shared}
theorem dict_eq_declines_str {prog : Program} {w : World} {E : Value → Shared → Prop} {a : Addr} (da : s.TypeIs (.ref a) "dict") (b : Str) (u : Tok) (Q' : Value → Shared → Prop) (hq : Q' .notImplemented s) :
    wpAny (model prog w) A (call (.builtin "dict.__eq__") [.ref a, .str b u]) Q' E s := by
  refine wpAny_call_entry PySem.F.slot_dict_eq da PySem.F.entry_dict_eq ?_ (PySem.F.args_dict_eq_2 _ _)
  show wpAny _ _ (Builtin.Dict.dictSlotArgs "__eq__" ⟨[.ref a, .str b u], []⟩ >>= _) _ _ s
  refine wpAny_bind ?_
  unfold Builtin.Dict.dictSlotArgs
  refine wpAny_bind (wpAny_notOrdered_dict da ?_)
  show wpAny _ _ (pure (Value.ref a, Value.str b u)) _ _ s
  refine wpAny_pure ?_
  refine wpAny_bind ?_
  show wpAny (model prog w) A.in1 (isInstance (.str b u) (.type "dict")) _ _ s
  have f1 := PySem.F.sub_str_dict
  obtain ⟨hp, g, d, tk, os⟩ := s
  wp_walk
  exact ⟨_, rfl, hq⟩
theorem str_eq_declines_any (b : Str) (u : Tok) (l : Addr) {c : Value} {es : Array DictEntry} {ep : Nat} {dd : Option Addr} {sl : Array (Option Value)} :
    Meets (Builtin.«str.__eq__» ⟨[.str b u, .ref l], []⟩) (fun _ R s => s.heap.get? l = some { cls := c, dict := dd, data := .dict es ep, slots := sl } ∧ R (.ok (.ret .notImplemented)) s) :=
  .of_wp fun prog w A R s h => by obtain ⟨hp, g, d, tk, os⟩ := s; obtain ⟨hl, h⟩ := h; wp_walk using AutoSeq1.wpAny_loadPart' hl, wpAny_load hl; exact ⟨_, rfl, h⟩
theorem rc_dict_str {a : Addr} {o : Obj} {es : Array DictEntry} {ep : Nat} (ho : s.heap.get? a = some o) (hc : o.cls = .type "dict") (hd : o.data = .dict es ep) (b : Str) (u : Tok) (hu : A.units < cLine) : RcAt A s (.ref a) (.str b u) false := fun prog w E Q h => by
  obtain ⟨cls, dd, data, sl⟩ := o
  simp only at hc hd
  subst hc hd
  exact rc_eq_decline_or (k := false) ⟨_, ho, rfl⟩ (typeIs_str s b u) (by decide) PySem.F.sub_str_dict PySem.F.slot_dict_eq PySem.F.slot_str_eq_refl
    (fun Q' hq => dict_eq_declines_str ⟨_, ho, rfl⟩ b u Q' hq)
    (fun _ hq => call_meets PySem.F.slot_str_eq_refl (typeIs_str s b u) PySem.F.entry_str_eq (PySem.F.args_str_eq_2 _ _) (str_eq_declines_any b u a) ⟨ho, hq⟩)
    (fun _ hq => wpAny_of_eq (rfl : isSame (.ref a) (.str b u) = pure false) hq) (.inr hu) h
theorem eq_dict_str {a : Addr} {o : Obj} {es : Array DictEntry} {ep : Nat} (ho : s.heap.get? a = some o) (hc : o.cls = .type "dict") (hd : o.data = .dict es ep) (b : Str) (u : Tok) (hu : A.units < cLine) : EqAt A s (.ref a) (.str b u) false := fun prog w E Q h => by
  unfold eqBool
  refine wpAny_holding ?_
  refine wpAny_ite_split (fun hab => absurd (eq_of_beq hab) nofun) (fun _ => ?_)
  exact wpAny_bind (rc_dict_str ho hc hd b u hu prog w E _ (wpAny_truthy_bool h))
end
section
variable {X : Cx} {pins : List (Addr × Obj)} {σ : L2.St} {H : Hp} {s : Shared} {A : Around}
theorem mem_oddAt (I : Inv X pins σ H s) {x : Str} {v : Value} (rx : RelV (.str x) v) (hu : A.units < cLine) : ∀ {xs : List V} {us : List Value}, Vals xs us → (∀ y ∈ xs, OddV H y) → (∀ u ∈ us, EqAt A s u v (eqU (.str x) u)) ∧ us.any (eqU (.str x)) = xs.any fun y => eqV y (.str x)
  | _, _, .nil, _ => ⟨(fun u hu => by cases hu), rfl⟩
  | y :: xs, u :: us, .cons r t, f => by
    obtain ⟨h1, h2⟩ := mem_oddAt I rx hu t fun y hy => f y (List.mem_cons_of_mem _ hy)
    obtain ⟨q1, q2⟩ : EqAt A s u v (eqU (.str x) u) ∧ eqU (.str x) u = eqV y (.str x) := by
      rcases f y List.mem_cons_self with hf | ⟨a, rfl, ha⟩
      · exact ⟨by rw [eqU_of r hf]; exact eqAt_V r rx hf rfl, eqU_of r hf⟩
      · cases r
        obtain ⟨tk, rfl⟩ := rx
        refine ⟨?_, rfl⟩
        show EqAt A s (.ref a) (.str x tk) false
        rcases ha with ⟨ys, ha⟩ | ⟨ys, ha⟩ | ⟨ks, ha⟩
        · obtain ⟨its, r, pl, hz⟩ := I.list (.inl (.inl ha))
          exact EqAt.list_str x tk pl.isList hu
        · obtain ⟨its, r, pl, hz⟩ := I.tuple (.inl (.inl ha))
          exact EqAt.tuple_str x tk pl hu
        · obtain ⟨_, hs, vs, hkv, o, es, ep, g1, g2, g3, _, g5, _⟩ := dk_of I.hok ha
          exact eq_dict_str g1 g2.1 g3 x tk hu
    refine ⟨fun u' hu' => ?_, by rw [List.any_cons, List.any_cons, q2, h2]⟩
    rcases List.mem_cons.mp hu' with rfl | hu'
    · exact q1
    · exact h1 u' hu'
end
theorem eqV_str (y : V) (x : Str) : eqV y (.str x) = decide (y = .str x) := by
  cases y with
  | str z =>
    show (z == x) = _
    rw [Bool.eq_iff_iff]
    simp
  | _ => simp [eqV]
/-- text in list -/
def rInO (K : PySem.W.Frag) : R2 := fun x y H Q => ∃ (z : Str) (a : Addr) (xs : List V), x = .str z ∧ y = .ref a ∧ SqL K H a xs ∧ (∀ v ∈ xs, OddV H v) ∧ Q (.bl (decide (V.str z ∈ xs))) H
theorem op_inO {X : Cx} (hu : X.A.units + 64 < cLine) : OpR X (compareOp .In) (rInO X.K) := by
  intro pins s σ H x y v u Q I rx ry h
  obtain ⟨z, a, xs, rfl, rfl, hq, hf, q⟩ := h
  cases ry
  obtain ⟨its, r, pl, hz⟩ := I.list hq
  obtain ⟨h1, h2⟩ := mem_oddAt (A := X.A.in1) I rx (by show X.A.units + 1 < cLine; omega) r hf
  refine SeqAt.in_listAt (eqU (.str z)) pl.isList (fun w hw => h1 w (by simpa using hw)) ⟨.bl _, H, I, rfl, ?_⟩
  rw [show its.toArray.any (eqU (.str z)) = its.any (eqU (.str z)) by simp, h2]
  have e : (xs.any fun y => eqV y (.str z)) = decide (V.str z ∈ xs) := by
    simp only [eqV_str]
    rw [Bool.eq_iff_iff]
    simp
  rw [e]
  exact q
end Lm

namespace Lm
open PySem PySem.Spec PyProof.Rows L2
/-- a def that calls repr and makes lambdas -/
theorem okCG {P : Program} {w : World} {K : PySem.W.Frag} {mg : Str → Option Value} {base : Heap} {x qual : Str} {st : Stmt} {f c : Addr} {fd : FuncData} {N ps : List Str} {k : Nat} {sp : Sp} (F : L2.Fun K x qual st f fd) (hc : fd.code = Value.ref c) (S : FnScope N ps (defScope st)) (len : ∀ vs H Q E, sp vs H Q E → vs.length = ps.length)
    (hbody : ∀ (A : Around), A.guards = some [] → ∀ (outer : List Env) (s : Shared) (H : Hp) (vs : List V) (Q : VK) (E : XK), Room k (A.deeper (envOfC qual (defScope st) s.heap.objs.size f (.ref c))) → sp vs H Q E →
      ∃ t, PSs (cxOf CX0 P w K mg base N qual (defScope st) f (.ref c) A outer s H E).nox (defBody st) t ∧ t { nx := fun _ H' => Q .non H', rt := Q } (L2.start N vs) H) : FnOkG P w K mg base CX0 (k + 1) f fd ps sp := by
  obtain ⟨oc, od, kV, doc, pm, an, cdv, ct, osl, rfl, lk, hcd⟩ := F.ex
  have e : cdv = .ref c := hc
  subst e
  refine .of_def lk hcd S len fun A hg outer s H vs Q E hr hsp => ?_
  obtain ⟨t, h, q⟩ := hbody A hg outer s H vs Q E hr hsp
  exact ⟨t, h.nox, q⟩
/-- what the end asks of a law that calls repr and makes lambdas -/
def LawAtG (l : PySem.W.OpenLaw) (w : World) (K : PySem.W.Frag) (k n : Nat) (x : Str) (mg : Str → Option Value) (fa : Addr) (h : Heap) : Prop :=
  ∃ (fd : FuncData) (cs : List (Addr × Addr)) (sp : Sp), (∀ p ∈ cs, h.get? p.2 = some { cls := .none, data := .fields #[] }) ∧ (∀ p ∈ cs, K.lookup p.2 = none) ∧ (∀ p ∈ cs, PySem.W.CodeHd h p.1 p.2) ∧ (∀ (s : Shared) (u : Value), BindsTo s fd ⟨[u], []⟩ [(x, u)]) ∧
    (∀ (H : Hp) (a : Addr) (ns : List Int), ns.length ≤ n → (∀ z ∈ ns, Builtin.Int.intBits z ≤ 1048576) → (∀ p ∈ cs, H p.2 = some (.tbl #[])) → SqL K H a (ns.map V.int) → sp [.ref a] H (fun v _ => v = .bl true) fun _ _ _ => False) ∧
    ∀ b : Heap, K.In b → b.Ns mainGlobals mg → (∀ p ∈ cs, LamX.TabB b mg p.1 p.2) → FnOkG l.prog w K mg b CX0 k fa fd [x] sp
theorem walk_ofG {l : PySem.W.OpenLaw} {n k : Nat} {q : Program} {loose : List Str} {XP : (Str → Option Value) → Heap → Prop} {YP : World → Heap → Prop} {d : DefRec} {K : Params → PySem.W.Frag} {x : Str}
    (hn : l.most = some n) (hn2 : n ≤ sizeLine) (hdf : d.params.defaults = []) (hr : Room k callerA) (hY : ∀ (w : World) (h : Heap), YP w h → (K w.params).In h)
    (F : ∀ (w : World) (mg : Str → Option Value) (fa : Addr) (h : Heap), YP w h → (K w.params).In h → h.Ns mainGlobals mg → mg d.name = some (.ref fa) → LawAtG l w (K w.params) k n x mg fa h) :
    PySem.W.WalkO q loose XP YP l.row.toRowW d [] (fun f vs => PySem.call f vs) :=
  walkG hn hn2 hdf hr fun w mg fa h Y G hm => by
    obtain ⟨fd, cs, sp, hT, nT, C, hb, hsp, hF⟩ := F w mg fa h Y (hY w h Y) G hm
    exact ⟨K w.params, fd, cs, sp, hY w h Y, hT, nT, C, hb, hsp, hF⟩
end Lm

namespace Lm
open PySem L2
/-! ### a list of anything == [] -/
def rEqE (K : PySem.W.Frag) : R2 := fun x y H Q => ∃ a b xs, x = .ref a ∧ y = .ref b ∧ SqL K H a xs ∧ SqL K H b [] ∧ Q (.bl (decide (xs = []))) H
theorem op_eqE {X : Cx} (hu : X.A.units + 64 < PySem.cLine) : OpR X (compareOp .Eq) (rEqE X.K) := by
  intro pins s σ H x y v u Q I rx ry h
  obtain ⟨a, b, xs, rfl, rfl, ha, hb, q⟩ := h
  cases (show v = Value.ref a from rx)
  cases (show u = Value.ref b from ry)
  obtain ⟨us, r1, p1, _⟩ := I.list ha
  obtain ⟨ws, r2, p2, _⟩ := I.list hb
  have hw : ws = [] := List.length_eq_zero_iff.mp r2.length.symm
  subst hw
  by_cases hx : xs = []
  · subst hx
    have hu' : us = [] := List.length_eq_zero_iff.mp r1.length.symm
    subst hu'
    refine PySem.SeqAt.RcAt.lists (e := fun _ => true) p1.isList p2.isList rfl (by omega) (fun j h1 h2 => (Nat.not_lt_zero _ h1).elim) _ _ _ _ ?_
    exact ⟨.bl true, H, I, rfl, q⟩
  · have hl : us.length ≠ 0 := fun z => hx (List.length_eq_zero_iff.mp (by rw [r1.length]; exact z))
    refine PySem.SeqAt.RcAt.lists_lengths p1.isList p2.isList ?_ (by omega) _ _ _ _ ?_
    · rw [bne_iff_ne]
      simpa using hl
    · refine ⟨.bl false, H, I, rfl, ?_⟩
      rw [decide_eq_false hx] at q
      exact q
theorem ev_eqE {K : PySem.W.Frag} {σ : L2.St} {H : Hp} {ta : TE} {p : Addr} {xs : List V} (h : Evl.Ev ta σ H (.ref p)) (hp : H p = some (.lst xs)) : Evl.Ev (tOp (rEqE K) ta (tLst tNil)) σ H (.bl (decide (xs = []))) := fun H1 e Q q =>
  h H1 e _ fun H2 e2 => (Evl.el_lst Evl.ea_nil (by decide) : Evl.EvL (tLst tNil) σ H []) H2 (Evl.Ex.trans e e2) _ fun p' H3 _ e3 hp' => ⟨p, p', xs, rfl, rfl, .inl (.inl (Evl.Ex.trans e (Evl.Ex.trans e2 e3) _ _ hp)), .inl (.inl hp'), q H3 (Evl.Ex.trans e2 e3)⟩
end Lm

namespace Lm
open PySem PySem.Spec PyProof.Rows L2 PySem.SeqAt
/-! ### a thing of any kind in a row of texts -/
section
variable {A : Around} {s : Shared}
theorem rc_str_dict {a : Addr} {o : Obj} {es : Array DictEntry} {ep : Nat} (ho : s.heap.get? a = some o) (hc : o.cls = .type "dict") (hd : o.data = .dict es ep) (b : Str) (u : Tok) (hu : A.units < cLine) : RcAt A s (.str b u) (.ref a) false := fun prog w E Q h => by
  obtain ⟨cls, dd, data, sl⟩ := o
  simp only at hc hd
  subst hc hd
  exact rc_eq_decline_or (k := false) (typeIs_str s b u) ⟨_, ho, rfl⟩ (by decide) PySem.F.sub_dict_str PySem.F.slot_str_eq PySem.F.slot_dict_eq_refl
    (fun _ hq => call_meets PySem.F.slot_str_eq (typeIs_str s b u) PySem.F.entry_str_eq (PySem.F.args_str_eq_2 _ _) (str_eq_declines_any b u a) ⟨ho, hq⟩)
    (fun Q' hq => dict_eq_declines_str ⟨_, ho, rfl⟩ b u Q' hq)
    (fun _ hq => wpAny_of_eq (rfl : isSame (.str b u) (.ref a) = pure false) hq) (.inr hu) h
theorem eq_str_dict {a : Addr} {o : Obj} {es : Array DictEntry} {ep : Nat} (ho : s.heap.get? a = some o) (hc : o.cls = .type "dict") (hd : o.data = .dict es ep) (b : Str) (u : Tok) (hu : A.units < cLine) : EqAt A s (.str b u) (.ref a) false := fun prog w E Q h => by
  unfold eqBool
  refine wpAny_holding ?_
  refine wpAny_ite_split (fun hab => absurd (eq_of_beq hab) nofun) (fun _ => ?_)
  exact wpAny_bind (rc_str_dict ho hc hd b u hu prog w E _ (wpAny_truthy_bool h))
end
section
variable {X : Cx} {pins : List (Addr × Obj)} {σ : L2.St} {H : Hp} {s : Shared} {A : Around}
theorem mem_textAt (I : Inv X pins σ H s) {y : V} {v : Value} (ry : RelV y v) (ho : OddV H y) (hu : A.units < cLine) : ∀ {ws : List Str} {us : List Value}, Vals (ws.map V.str) us → ∃ e : Value → Bool, (∀ u ∈ us, EqAt A s u v (e u)) ∧ us.any e = decide (y ∈ ws.map V.str)
  | ws, us, r => by
    rcases ho with hf | ⟨a, rfl, ha⟩
    · refine ⟨eqU y, fun u hu' => mem_eqAt ry hf r (List.all_eq_true.mpr fun x hx => by obtain ⟨z, _, rfl⟩ := List.mem_map.mp hx; rfl) u hu', ?_⟩
      rw [any_eqU r (List.all_eq_true.mpr fun x hx => by obtain ⟨z, _, rfl⟩ := List.mem_map.mp hx; rfl), Bool.eq_iff_iff, List.any_eq_true, decide_eq_true_iff]
      constructor
      · rintro ⟨x, hx, e⟩
        obtain ⟨z, _, rfl⟩ := List.mem_map.mp hx
        cases y with
        | str t => rw [eqV_str] at e; rw [← of_decide_eq_true e]; exact hx
        | _ => cases e
      · intro hm
        obtain ⟨z, _, e⟩ := List.mem_map.mp hm
        subst e
        exact ⟨_, hm, by rw [eqV_str]; exact decide_eq_true rfl⟩
    · cases ry
      refine ⟨fun _ => false, fun u hu' => ?_, by
        rw [List.any_eq_false.mpr fun _ _ => by simp]
        refine (decide_eq_false fun hm => ?_).symm
        obtain ⟨z, _, e⟩ := List.mem_map.mp hm
        cases e⟩
      obtain ⟨x, tk, rfl⟩ : ∃ x tk, u = .str x tk := by
        clear ha I
        induction ws generalizing us with
        | nil => cases r; cases hu'
        | cons z ws ih =>
          cases r with
          | cons h t =>
            rcases List.mem_cons.mp hu' with rfl | hm
            · obtain ⟨tk, rfl⟩ := h
              exact ⟨_, _, rfl⟩
            · exact ih _ t hm
      rcases ha with ⟨ys, ha⟩ | ⟨ys, ha⟩ | ⟨ks, ha⟩
      · obtain ⟨its, r, pl, hz⟩ := I.list (.inl (.inl ha))
        exact EqAt.str_list x tk pl.isList hu
      · obtain ⟨its, r, pl, hz⟩ := I.tuple (.inl (.inl ha))
        exact EqAt.str_tuple x tk pl hu
      · obtain ⟨_, hs, vs, hkv, o, es, ep, g1, g2, g3, _, g5, _⟩ := dk_of I.hok ha
        exact eq_str_dict g1 g2.1 g3 x tk hu
end
/-- x in / not in a tuple or list of texts -/
def rInT (K : PySem.W.Frag) (neg : Bool) : R2 := fun x y H Q => ∃ (a : Addr) (ws : List Str), y = .ref a ∧ (SqT K H a (ws.map V.str) ∨ SqL K H a (ws.map V.str)) ∧ OddV H x ∧ Q (.bl (if neg then !decide (x ∈ ws.map V.str) else decide (x ∈ ws.map V.str))) H
theorem op_inT {X : Cx} (hu : X.A.units + 64 < cLine) : OpR X (compareOp .In) (rInT X.K false) := by
  intro pins s σ H x y v u Q I rx ry h
  obtain ⟨a, ws, rfl, hq, ho, q⟩ := h
  cases ry
  rcases hq with hq | hq
  · obtain ⟨its, r, pl, hz⟩ := I.tuple hq
    obtain ⟨e, h1, h2⟩ := mem_textAt (A := X.A.in1) I rx ho (by show X.A.units + 1 < cLine; omega) r
    refine SeqAt.in_tupleAt e pl (fun w hw => h1 w (by simpa using hw)) ⟨.bl _, H, I, rfl, ?_⟩
    rw [show its.toArray.any e = its.any e by simp, h2]
    exact q
  · obtain ⟨its, r, pl, hz⟩ := I.list hq
    obtain ⟨e, h1, h2⟩ := mem_textAt (A := X.A.in1) I rx ho (by show X.A.units + 1 < cLine; omega) r
    refine SeqAt.in_listAt e pl.isList (fun w hw => h1 w (by simpa using hw)) ⟨.bl _, H, I, rfl, ?_⟩
    rw [show its.toArray.any e = its.any e by simp, h2]
    exact q
theorem op_notInT {X : Cx} (hu : X.A.units + 64 < cLine) : OpR X (compareOp .NotIn) (rInT X.K true) := by
  intro pins s σ H x y v u Q I rx ry h
  obtain ⟨a, ws, rfl, hq, ho, q⟩ := h
  cases ry
  rcases hq with hq | hq
  · obtain ⟨its, r, pl, hz⟩ := I.tuple hq
    obtain ⟨e, h1, h2⟩ := mem_textAt (A := X.A.in1) I rx ho (by show X.A.units + 1 < cLine; omega) r
    refine SeqAt.notIn_tupleAt e pl (fun w hw => h1 w (by simpa using hw)) ⟨.bl _, H, I, rfl, ?_⟩
    rw [show its.toArray.any e = its.any e by simp, h2]
    exact q
  · obtain ⟨its, r, pl, hz⟩ := I.list hq
    obtain ⟨e, h1, h2⟩ := mem_textAt (A := X.A.in1) I rx ho (by show X.A.units + 1 < cLine; omega) r
    refine SeqAt.notIn_listAt e pl.isList (fun w hw => h1 w (by simpa using hw)) ⟨.bl _, H, I, rfl, ?_⟩
    rw [show its.toArray.any e = its.any e by simp, h2]
    exact q
end Lm

namespace Lm
open PySem PySem.Spec PyProof.Rows L2
/-! ### repr of rows of rows whose things may be flat dicts -/
def RowD (K : PySem.W.Frag) (H : Hp) (v : V) (d : PyData) : Prop := ItD K H v d ∨ ∃ (a : Addr) (b : Bool) (ys : List V) (ds : List PyData), v = .ref a ∧ (if b = true then H a = some (.lst ys) else H a = some (.tup ys)) ∧ Paired (fun x d => ItD K H x d) ys ds ∧ d = seqD' b ds
theorem RowD.reprK {X : Cx} {pins : List (Addr × Obj)} {σ : L2.St} {H : Hp} {s : Shared} (I : Inv X pins σ H s) {v : V} {d : PyData} {u : Value} (h : RowD X.K H v d) (r : RelV v u) (hs : d.showable = true) (hz : d.shown.length ≤ sizeLine) :
    ∃ as bs, Reads s.heap u d as ∧ ReadAtMost s.heap d.depth bs ∧ ReprK X.prog X.w bs s.heap d.depth u d.shown := by
  rcases h with h | ⟨a, b, ys, ds, rfl, ha, hp, rfl⟩
  · obtain ⟨as, q1, q2⟩ := ItD.reads I h r
    obtain ⟨bs, m, k⟩ := ReprK.of_reads (prog := X.prog) (w := X.w) q1 hs q2 hz
    exact ⟨as, bs, q1, m, k⟩
  · cases r
    cases b with
    | true =>
      have ha : H a = some (.lst ys) := ha
      obtain ⟨its, rv, ⟨o, n, ho, hc, _, hd⟩, _⟩ := I.list (SqL.of ha)
      have hsz' : (listText (PyData.shownAll ds)).length ≤ sizeLine := hz
      have hs' : PyData.showableAll ds = true := hs
      obtain ⟨as, bs, q1, q2, q3⟩ := row_reprK I hp rv hs' fun t ht => Nat.le_trans (listText_mem_le ht) hsz'
      have rd := Reads.list ho hc hd q1
      have hna : a ∉ bs := not_mem_of_deeper rd (by show _ < PyData.depthAll ds + 1; omega) q2
      refine ⟨_, a :: bs, rd, ReadAtMost.cons rd (by show _ ≤ PyData.depthAll ds + 1; omega) q2, ?_⟩
      show ReprK X.prog X.w (a :: bs) s.heap (PyData.depthAll ds + 1) (.ref a) (listText (PyData.shownAll ds))
      cases its with
      | nil =>
        cases q1
        have e : listText (PyData.shownAll []) = ("[]" : Str) := listText_nil
        rw [e]
        exact ReprK.listEmpty ho hc hd
      | cons x l => exact ReprK.list ho hc hd hna (by simpa using q3.length_eq) (fun i y e => q3.item i y (by simpa using e))
    | false =>
      have ha : H a = some (.tup ys) := ha
      obtain ⟨its, rv, ⟨o, ho, hc, n, hd⟩, _⟩ := I.tuple (SqT.of ha)
      have hsz' : (tupleText (PyData.shownAll ds)).length ≤ sizeLine := hz
      have hs' : PyData.showableAll ds = true := hs
      obtain ⟨as, bs, q1, q2, q3⟩ := row_reprK I hp rv hs' fun t ht => Nat.le_trans (tupleText_mem_le ht) hsz'
      have rd := Reads.tuple ho hc hd q1
      have hna : a ∉ bs := not_mem_of_deeper rd (by show _ < PyData.depthAll ds + 1; omega) q2
      refine ⟨_, a :: bs, rd, ReadAtMost.cons rd (by show _ ≤ PyData.depthAll ds + 1; omega) q2, ?_⟩
      show ReprK X.prog X.w (a :: bs) s.heap (PyData.depthAll ds + 1) (.ref a) (tupleText (PyData.shownAll ds))
      exact ReprK.tuple ho hc hd hna q3
theorem row_reprR {X : Cx} {pins : List (Addr × Obj)} {σ : L2.St} {H : Hp} {s : Shared} (I : Inv X pins σ H s) : ∀ {xs : List V} {ds : List PyData} {us : List Value}, Paired (fun x d => RowD X.K H x d) xs ds → Vals xs us → PyData.showableAll ds = true → (∀ t ∈ PyData.shownAll ds, t.length ≤ sizeLine) →
    ∃ as bs, ReadsAll s.heap us ds as ∧ ReadAtMost s.heap (PyData.depthAll ds) bs ∧ ReprAllK X.prog X.w bs s.heap (PyData.depthAll ds) us (PyData.shownAll ds)
  | _, _, _, .nil, .nil, _, _ => ⟨[], [], .nil, (fun _ h => nomatch h), .nil⟩
  | _ :: _, d :: ds, _ :: _, .cons h1 h2, .cons r1 r2, hs, hz => by
    have hs' : d.showable = true ∧ PyData.showableAll ds = true := by simpa [PyData.showableAll] using hs
    obtain ⟨a1, b1, q1, m1, k1⟩ := RowD.reprK I h1 r1 hs'.1 (hz _ (by simp only [PyData.shownAll]; exact List.mem_cons_self ..))
    obtain ⟨a2, b2, q3, m2, k2⟩ := row_reprR I h2 r2 hs'.2 fun t ht => hz t (by simp only [PyData.shownAll]; exact List.mem_cons_of_mem _ ht)
    refine ⟨_, b1 ++ b2, .cons q1 q3, ?_, ?_⟩
    · intro b hm
      rcases List.mem_append.mp hm with hm | hm
      · exact (m1.mono (Nat.le_max_left _ _)) b hm
      · exact (m2.mono (Nat.le_max_right _ _)) b hm
    · exact .cons ((k1.more fun b hb => List.mem_append_left _ hb).level_le (Nat.le_max_left _ _)) (k2.more_le (fun b hb => List.mem_append_right _ hb) (Nat.le_max_right _ _))
/-- what repr reads: a list or a tuple of rows -/
def rReprR (K : PySem.W.Frag) : List V → Hp → VK → Prop := fun xs H Q => ∃ (a : Addr) (b : Bool) (ys : List V) (ds : List PyData), xs = [.ref a] ∧ (if b = true then H a = some (.lst ys) else H a = some (.tup ys)) ∧ Paired (fun x d => RowD K H x d) ys ds ∧ (seqD' b ds).showable = true ∧ (seqD' b ds).depth ≤ 50 ∧ (seqD' b ds).shown.length ≤ sizeLine ∧ Q (.str (seqD' b ds).shown) H
section
variable {X : Cx}
theorem cr_reprR (hg : X.A.guards = some []) (hu : X.A.units + 64 < cLine) : CallR X (.builtin "repr") (rReprR X.K) := by
  intro pins s σ H xs us Q I r h
  obtain ⟨a, b, ys, ds, rfl, ha, hp, hs, hdep, hsz, q⟩ := h
  rw [Vals.ref1 r]
  have fin : ∀ (h' : Heap) (u tk : Tok), (∀ b o, s.heap.get? b = some o → h'.get? b = some o) → EP X pins σ Q (.str (seqD' b ds).shown u) { s with heap := h', toks := tk } := fun h' u tk hk => ⟨.str (seqD' b ds).shown, H, I.kept hk, ⟨u, rfl⟩, q⟩
  cases b with
  | true =>
    have ha : H a = some (.lst ys) := ha
    obtain ⟨its, rv, ⟨o, n, ho, hc, _, hd⟩, _⟩ := I.list (SqL.of ha)
    have hsz' : (listText (PyData.shownAll ds)).length ≤ sizeLine := hsz
    have hs' : PyData.showableAll ds = true := hs
    obtain ⟨as, bs, q1, q2, q3⟩ := row_reprR I hp rv hs' fun t ht => Nat.le_trans (listText_mem_le ht) hsz'
    have hna : a ∉ bs := not_mem_of_deeper (Reads.list ho hc hd q1) (by show _ < PyData.depthAll ds + 1; omega) q2
    have hdep' : PyData.depthAll ds + 1 ≤ 50 := hdep
    refine call_repr_slot (by omega) ⟨o, ho, hc⟩ F.slot_list_repr.toG ?_
    cases its with
    | nil =>
      cases q1
      exact call_list_repr_empty ⟨o, ho, hc⟩ ho hd ⟨_, _, rfl, fin s.heap _ _ fun _ _ e => e⟩
    | cons x l => exact call_list_reprK ho hc hd hna (by simpa using q3.length_eq) (fun i y e => q3.item i y (by simpa using e)) (show X.A.in1.guards = some [] from hg) (fun b _ => Clear.nil b) (by show X.A.units + 1 + _ < _; omega) (fun _ _ e => e) (fun h' u tk hk => ⟨_, _, rfl, fin h' u tk hk⟩) hsz'
  | false =>
    have ha : H a = some (.tup ys) := ha
    obtain ⟨its, rv, ⟨o, ho, hc, n, hd⟩, _⟩ := I.tuple (SqT.of ha)
    have hsz' : (tupleText (PyData.shownAll ds)).length ≤ sizeLine := hsz
    have hs' : PyData.showableAll ds = true := hs
    obtain ⟨as, bs, q1, q2, q3⟩ := row_reprR I hp rv hs' fun t ht => Nat.le_trans (tupleText_mem_le ht) hsz'
    have hna : a ∉ bs := not_mem_of_deeper (Reads.tuple ho hc hd q1) (by show _ < PyData.depthAll ds + 1; omega) q2
    have hdep' : PyData.depthAll ds + 1 ≤ 50 := hdep
    refine call_repr_slot (by omega) ⟨o, ho, hc⟩ F.slot_tuple_repr ?_
    exact call_tuple_reprK ho hc hd hna q3 (show X.A.in1.guards = some [] from hg) (fun b _ => Clear.nil b) (by show X.A.units + 1 + _ < _; omega) (fun _ _ e => e) (fun h' u tk hk => ⟨_, _, rfl, fin h' u tk hk⟩) hsz'
end
end Lm

namespace Lm
open PySem L2
def top (i : Nat) : Stmt := PySem.Challenge.pw_leafmarks_k22_rules_refused.main.body.getD i (.Pass ⟨0, 0, 0, 0⟩)
end Lm

namespace Lm
open PySem L2
/-- what the walk asks of the built-in names -/
structure Blt (mg : Str → Option Value) : Prop where
  b_len : mg "len" = none
  b_int : mg "int" = none
  b_range : mg "range" = none
  b_enumerate : mg "enumerate" = none
  b_isinstance : mg "isinstance" = none
  b_list : mg "list" = none
  b_tuple : mg "tuple" = none
  b_str : mg "str" = none
  b_bool : mg "bool" = none
  b_all : mg "all" = none
  b_max : mg "max" = none
  b_zip : mg "zip" = none
section
variable {P : Program} {w : World} {K : PySem.W.Frag} {mg : Str → Option Value} {base : Heap} {f : Addr} {fd : FuncData}
def spFresh (K : PySem.W.Frag) : Sp := fun vs H Q _ => ∃ (a : Addr) (ns : List Int), vs = [.ref a] ∧ SqL K H a (ns.map V.int) ∧ ns.length ≤ 63 ∧ ∀ p c H', H p = none → H c = none → Same H H' → StAt H' p c → Q (.ref p) H'
abbrev s_fresh : Stmt := top 18
theorem sc_fresh : FnScope ["_law_script"] ["_law_script"] (defScope s_fresh) := ⟨rfl, rfl, rfl, by decide +kernel, rfl, by decide +kernel, by decide +kernel⟩
theorem ok_fresh (F : Fun K "_law_fresh" "_law_fresh" s_fresh f fd) (T : Blt mg) : FnOk P w K mg base CX0 1 f fd ["_law_script"] (spFresh K) := by
  refine F.ok sc_fresh (fun vs H Q E h => ?_) (fun cdv A outer s H vs Q E hr h => ?_)
  · obtain ⟨a, ns, rfl, _⟩ := h
    rfl
  · obtain ⟨a, ns, rfl, hS, hl, k⟩ := h
    refine ⟨_, (pss_one (ps_ret (pe_lst (pa_cons (pe_slice sl_list (pv 0) po_none (po_some pe_int)) (pa_cons pe_int (pa_cons pe_int (pa_cons pe_bl pa_nil))))))), ?_⟩
    have hc : cutV (ns.map V.int) none (some 63) = (ns.map V.int) := by
      have e : (ns.map V.int).length = ns.length := List.length_map ..
      unfold cutV
      rw [HT.sIx_none, show (some (63 : Int)) = some ((63 : Nat) : Int) from rfl, HT.sIx_nat, List.drop_zero, e, Nat.min_eq_right hl, Nat.sub_zero, ← e, List.take_length]
    refine ⟨_, rfl, ⟨63, rfl, a, _, rfl, hS, fun c nc => ⟨by show 4 ≤ sizeLine; decide, fun p np => ?_⟩⟩⟩
    have hpc : p ≠ c := (ne_of_none upd_same np).symm
    have np' : H p = none := by rw [← upd_ne (H := H) (o := .lst (cutV (ns.map V.int) none (some 63))) hpc]; exact np
    refine k p c _ np' nc ((Same.upd' nc).trans (Same.upd' np)) ⟨⟨0, 0, false, upd_same⟩, ⟨ns, ?_, hl⟩, hpc.symm⟩
    rw [upd_ne hpc.symm, upd_same, hc]
end
end Lm

namespace Lm
open PySem L2
theorem mem_at {xs : List V} {i : Nat} {x : V} (h : xs[i]? = some x) : x ∈ xs := List.mem_of_getElem? h
theorem fmod_bd (a : Int) {p : Int} (h : 0 < p) : 0 ≤ Int.fmod a p ∧ Int.fmod a p < p := ⟨Int.fmod_nonneg_of_pos a h, Int.fmod_lt_of_pos a h⟩
/-- exactly evaluated: a value, the heap as it was -/
def Vx (te : TE) (σ : St) (H : Hp) (v : V) : Prop := ∀ Q : VK, Q v H → te σ H Q
theorem vx_or {ta tb : TE} {σ : St} {H : Hp} {a b : Bool} (h1 : Vx ta σ H (.bl a)) (h2 : Vx tb σ H (.bl b)) : Vx (tOrV ta tb) σ H (.bl (a || b)) := by
  intro Q q
  refine h1 _ ⟨a, rfl, ?_⟩
  cases a
  · exact iteF (h2 _ q)
  · exact iteT q
theorem vx_and {ta tb : TE} {σ : St} {H : Hp} {a b : Bool} (h1 : Vx ta σ H (.bl a)) (h2 : Vx tb σ H (.bl b)) : Vx (tAndV ta tb) σ H (.bl (a && b)) := by
  intro Q q
  refine h1 _ ⟨a, rfl, ?_⟩
  cases a
  · exact iteF q
  · exact iteT (h2 _ q)
theorem sq_asgB {te : TE} {g : TG} {tz : TS} {D : Ends} {σ : St} {H : Hp} (h : ∀ Q : VK, (∀ b : Bool, Q (.bl b) H) → te σ H Q) (k : ∀ b : Bool, g (.bl b) σ H (tz D)) : tSeq (tAsg te g) tz D σ H := h _ k
section
variable {P : Program} {w : World} {K : PySem.W.Frag} {mg : Str → Option Value} {base : Heap} {f : Addr} {fd : FuncData}
def spFill : Sp := fun vs H Q _ => ∃ (st c : Addr), vs = [.ref st] ∧ StAt H st c ∧ ∀ H', StAt H' st c → Kp st H H' → Q .non H'
abbrev s_fill : Stmt := top 19
theorem sc_fill : FnScope ["_law_state", "_law_cells", "_law_nth", "_law_seed", "_law_k", "_law_prime", "_law_far"] ["_law_state"] (defScope s_fill) := ⟨rfl, rfl, rfl, by decide +kernel, rfl, by decide +kernel, by decide +kernel⟩
theorem ok_fill (F : Fun K "_law_fill" "_law_fill" s_fill f fd) (T : Blt mg) : FnOk P w K mg base CX0 1 f fd ["_law_state"] spFill := by
  refine F.ok sc_fill (fun vs H Q E h => ?_) (fun cdv A outer s H vs Q E hr h => ?_)
  · obtain ⟨st, c, rfl, _⟩ := h
    rfl
  · obtain ⟨st, c, rfl, S, k⟩ := h
    obtain ⟨⟨n, l, b, h1⟩, ⟨ns, h2, hl⟩, ne⟩ := id S
    refine ⟨_, (pss_cons (ps_par (i := 1) (j := 2) (by rfl) sc_fill.nd rfl rfl (by decide) rfl rfl (pa_cons (pe_ix ix_list (pv 0) pe_int (fun _ _ => rfl)) (pa_cons (pe_ix ix_list (pv 0) pe_int (fun _ _ => rfl)) pa_nil)) (by rfl))
        (pss_cons (ps_set (i := 3) sc_fill.nd rfl (by first | exact Or.inl rfl | exact Or.inr rfl) (pe_op op_add (pe_op op_mul pe_int (pv 2)) pe_int))
        (Evl.pss_cut (ps_if (pt_cmpR op_gt (pe_callB call_len_seq (by rfl) T.b_len PySem.boot_len (pa_cons (pv 1) pa_nil)) pe_int (nomark _)) (pss_one (ps_set (i := 3) sc_fill.nd rfl (by first | exact Or.inl rfl | exact Or.inr rfl) (pe_op op_add (pe_op op_mul pe_int (pe_op op_fdivN (pv 2) (pe_callB call_len_seq (by rfl) T.b_len PySem.boot_len (pa_cons (pv 1) pa_nil)))) (pe_ix ix_list (pv 1) (pe_op op_modN (pe_callTy call_int1 (by rfl) T.b_int (by decide +kernel) (pa_cons (pv 2) pa_nil)) (pe_callB call_len_seq (by rfl) T.b_len PySem.boot_len (pa_cons (pv 1) pa_nil))) (fun _ _ => rfl))))) pss_nil)
        (pss_cons (ps_asg (pe_op op_add (pv 2) pe_int) (pg_sub (pv 0) pe_int set_list))
        (pss_cons (ps_asg (pe_or (pe_cmpR op_ge (pv 2) (pe_callB call_len_seq (by rfl) T.b_len PySem.boot_len (pa_cons (pv 1) pa_nil)) (nomark _)) (pe_one (pe_cmpR op_lt (pv 3) (pe_op op_pow pe_int pe_int) (nomark _)))) (pg_sub (pv 0) pe_int set_list))
        (pss_cons (ps_asg (pe_op op_sub (pv 3) (pe_op op_pow pe_int pe_int)) (pg_sub (pv 0) pe_int set_list))
        (pss_one (ps_if (pt_val (pe_ix ix_list (pv 0) pe_int (fun _ _ => rfl))) (pss_cons (ps_asg pe_int (pg_sub (pv 0) pe_int set_list))
        (pss_one (ps_for PassesOwn.never rfl (pi_enumA rfl T.b_enumerate (pa_cons (pe_tup (pa_cons pe_int (pa_cons pe_int (pa_cons pe_int (pa_cons pe_int (pa_cons pe_int pa_nil)))))) pa_nil)) (pg_tup rfl (pgs_cons (pg_name (i := 4) sc_fill.nd rfl (by first | exact Or.inl rfl | exact Or.inr rfl)) (pgs_cons (pg_name (i := 5) sc_fill.nd rfl (by first | exact Or.inl rfl | exact Or.inr rfl)) pgs_nil))) (pss_cons (ps_set (i := 6) sc_fill.nd rfl (by first | exact Or.inl rfl | exact Or.inr rfl) (pe_op op_modN (pe_callTy call_int1 (by rfl) T.b_int (by decide +kernel) (pa_cons (pe_op op_mul (pe_op op_add (pe_op op_add (pv 3) (pe_op op_mul (pe_op op_mul pe_int (pv 4)) (pv 4))) (pe_op op_mul pe_int (pv 4))) (pe_op op_add pe_int (pe_op op_mul pe_int (pv 4)))) pa_nil)) (pv 5)))
        (pss_one (ps_asg (pe_op op_add (pe_op op_mul (pe_ix ix_list (pv 0) pe_int (fun _ _ => rfl)) (pv 5)) (pe_op op_modN (pe_callTy call_int1 (by rfl) T.b_int (by decide +kernel) (pa_cons (pe_op op_pow (pv 6) pe_int) pa_nil)) (pv 5))) (pg_sub (pv 0) pe_int set_list))))))) pss_nil)))))))), ?_⟩
    refine ⟨_, rfl, _, _, _, _, rfl, rfl, SqL.of h1, rfl, _, rfl, _, _, _, _, rfl, rfl, SqL.of h1, rfl, _, _, rfl, ?_⟩
    refine ⟨_, rfl, _, _, rfl, rfl, .inl ⟨by decide, by decide⟩, _, _, rfl, rfl, ?_⟩
    refine ⟨fun σ' H' => H = H' ∧ ∃ seed : Int, σ' = [some (.ref st), some (.ref c), some (.int n), some (.int seed), none, none, none], ?_, ?_⟩
    · refine ⟨_, rfl, _, _, rfl, .inl (SqL.of h2), _, _, rfl, rfl, _, rfl, ite2 (fun hp => ?_) (fun _ => ⟨rfl, _, rfl⟩)⟩
      have e : (ns.map V.int).length = ns.length := List.length_map ..
      have hp : 0 < ns.length := by
        have hp := of_decide_eq_true hp
        rw [e] at hp; omega
      refine ⟨_, rfl, _, rfl, _, _, rfl, .inl (SqL.of h2), _, _, rfl, rfl, ⟨by rw [e]; omega, by rw [e]; omega⟩, _, _, rfl, rfl, .inl ⟨by decide, by decide⟩, ?_⟩
      obtain ⟨m1, m2⟩ := fmod_bd n (p := ((ns.map V.int).length : Int)) (by rw [e]; omega)
      have hj : (Int.fmod n ((ns.map V.int).length : Int)).toNat < ns.length := by rw [e] at m1 m2 ⊢; omega
      refine ⟨_, rfl, _, rfl, .inl ⟨_, rfl, _, rfl, _, _, rfl, .inl (SqL.of h2), _, _, rfl, rfl, by rw [e]; omega, _, _, _, _, rfl, rfl, SqL.of h2, at_of (j := (Int.fmod n ((ns.map V.int).length : Int)).toNat) (Int.toNat_of_nonneg m1).symm (by rw [List.getElem?_map, List.getElem?_eq_getElem hj]; rfl), _, _, rfl, rfl, ⟨rfl, _, rfl⟩⟩⟩
    · rintro σ' H' ⟨rfl, seed, rfl⟩
      refine ⟨_, rfl, _, _, rfl, rfl, _, rfl, _, _, _, _, rfl, rfl, h1, rfl, ?_⟩
      generalize hH1 : upd H st _ = H1
      have g1 : H1 st = some (.lst [.ref c, .int (n + 1), .int l, .bl b]) := by rw [← hH1]; exact upd_same
      have g2 : H1 c = some (.lst (ns.map V.int)) := by rw [← hH1, upd_ne ne]; exact h2
      have kp1 : Kp st H H1 := by rw [← hH1]; exact Kp.upd _ _ _
      clear hH1
      -- far or not
      dsimp only
      refine sq_asgB (fun Q q => ?_) fun b' => ?_
      · refine ⟨_, rfl, _, rfl, _, _, rfl, .inl (SqL.of g2), _, _, rfl, rfl, _, rfl, ite2 (fun _ => q true) (fun _ => ?_)⟩
        exact ⟨_, rfl, _, _, rfl, rfl, ⟨by decide, by decide, by decide⟩, _, _, rfl, rfl, q _⟩
      refine ⟨_, rfl, _, _, _, _, rfl, rfl, g1, rfl, ?_⟩
      generalize hH2 : upd H1 st _ = H2
      have g3 : H2 st = some (.lst [.ref c, .int (n + 1), .int l, .bl b']) := by rw [← hH2]; exact upd_same
      have g4 : H2 c = some (.lst (ns.map V.int)) := by rw [← hH2, upd_ne ne]; exact g2
      have kp2 : Kp st H H2 := by rw [← hH2]; exact kp1.trans (Kp.upd _ _ _)
      clear hH2
      refine ⟨_, rfl, _, _, rfl, rfl, ⟨by decide, by decide, by decide⟩, _, _, rfl, rfl, _, rfl, _, _, _, _, rfl, rfl, g3, rfl, ?_⟩
      generalize hH3 : upd H2 st _ = H3
      obtain ⟨l3, g5⟩ : ∃ l3, H3 st = some (.lst [.ref c, .int (n + 1), .int l3, .bl b']) := ⟨_, by rw [← hH3]; exact upd_same⟩
      have g6 : H3 c = some (.lst (ns.map V.int)) := by rw [← hH3, upd_ne ne]; exact g4
      have kp3 : Kp st H H3 := by rw [← hH3]; exact kp2.trans (Kp.upd _ _ _)
      clear hH3
      refine ⟨_, rfl, _, _, _, _, rfl, rfl, SqL.of g5, rfl, _, rfl, ite2 (fun _ => ?_) (fun _ => k _ ⟨⟨_, _, _, g5⟩, ⟨ns, g6, hl⟩, ne⟩ kp3)⟩
      refine ⟨_, rfl, _, _, _, _, rfl, rfl, g5, rfl, ?_⟩
      generalize hH4 : upd H3 st _ = H4
      have g7 : H4 st = some (.lst [.ref c, .int (n + 1), .int 0, .bl b']) := by rw [← hH4]; exact upd_same
      have g8 : H4 c = some (.lst (ns.map V.int)) := by rw [← hH4, upd_ne ne]; exact g6
      have kp4 : Kp st H H4 := by rw [← hH4]; exact kp3.trans (Kp.upd _ _ _)
      clear hH4
      refine ⟨by show 5 ≤ sizeLine; decide, fun t nt => ?_⟩
      have hts : t ≠ st := (ne_of_none g7 nt).symm
      have htc : t ≠ c := (ne_of_none g8 nt).symm
      refine ⟨t, _, rfl, .inr ⟨SqT.of upd_same, for_it (walk_enumT (K := K) (xs := [V.int 2147483647, V.int 2147483629, V.int 2147483587, V.int 2147483579, V.int 2147483563])) (fun i σ' H' => ∃ (u v x : Option V) (l' : Int), σ' = [some (.ref st), some (.ref c), some (.int n), some (.int seed), u, v, x] ∧ Kp st (upd H4 t (.tup [V.int 2147483647, V.int 2147483629, V.int 2147483587, V.int 2147483579, V.int 2147483563])) H' ∧ H' st = some (.lst [.ref c, .int (n + 1), .int l', .bl b'])) ?_ ?_ ?_ ?_⟩⟩
      · exact ⟨_, _, _, _, rfl, Kp.refl _ _, by rw [upd_ne hts.symm]; exact g7⟩
      · rintro i σ' H' _ ⟨u, v, x, l', rfl, e, _⟩
        exact SqT.of (e _ _ hts upd_same)
      · rintro i y σ' H' H'' hi ⟨u, v, x, l', rfl, e, e2⟩ ⟨T, x1, x2, rfl, nT, rfl, hx1, hx2⟩
        obtain ⟨pr, rfl, pr0, pr1⟩ : ∃ pr : Int, x2 = .int pr ∧ 0 < pr ∧ pr < 2147483648 := by
          have hm := mem_at hx2
          simp only [List.mem_cons, List.not_mem_nil, or_false] at hm
          rcases hm with rfl | rfl | rfl | rfl | rfl <;> exact ⟨_, rfl, by decide, by decide⟩
        cases (Option.some.inj hx1)
        have hi : i < 5 := hi
        have hTs : T ≠ st := (ne_of_none e2 nT).symm
        refine ⟨T, _, rfl, SqT.of upd_same, rfl, _, _, rfl, _, _, rfl, rfl, ?_⟩
        refine ⟨_, rfl, _, rfl, _, _, rfl, rfl, .inl ⟨by decide, by decide⟩, _, rfl, _, _, rfl, rfl, .inr ⟨by omega, by omega⟩, _, _, rfl, rfl, ?_⟩
        refine ⟨_, rfl, _, _, rfl, rfl, .inl ⟨by decide, by decide⟩, _, _, rfl, rfl, _, rfl, _, _, rfl, rfl, .inl ⟨by decide, by decide⟩, _, _, rfl, rfl, _, _, rfl, rfl, .inr ⟨by omega, by omega⟩, ?_⟩
        refine .inl ⟨_, rfl, _, rfl, _, _, rfl, rfl, by omega, ?_⟩
        generalize hfar : Int.fmod _ pr = far
        have hfar2 := fmod_bd (((seed + 10007 * (i : Int) * (i : Int) + 101 * (i : Int)) * (48271 + 2 * (i : Int)))) pr0
        rw [hfar] at hfar2
        refine ⟨_, rfl, _, _, _, _, rfl, rfl, SqL.of (by rw [upd_ne hTs.symm]; exact e2), rfl, _, rfl, _, _, rfl, rfl, .inr ⟨by omega, by omega⟩, ?_⟩
        refine ⟨_, rfl, _, _, rfl, rfl, ⟨by decide, by decide, by omega⟩, .inl ⟨_, rfl, _, rfl, _, _, rfl, rfl, by omega, _, _, rfl, rfl, _, rfl, _, _, _, _, rfl, rfl, by rw [upd_ne hTs.symm]; exact e2, rfl, ?_⟩⟩
        refine ⟨_, _, _, _, rfl, (e.trans (Kp.of (Same.upd' nT))).trans (Kp.upd _ _ _), upd_same⟩
      · rintro σ' H' ⟨u, v, x, l', rfl, e, e2⟩
        exact k _ ⟨⟨_, _, _, e2⟩, ⟨ns, e _ _ ne (by rw [upd_ne htc.symm]; exact g8), hl⟩, ne⟩ ((kp4.trans (Kp.of (Same.upd' nt))).trans e)
end
end Lm

namespace Lm
open PySem L2
/-! ### what is wanted may be weakened -/
def MonE (te : TE) : Prop := ∀ σ H (Q Q' : VK), (∀ v H1, Q v H1 → Q' v H1) → te σ H Q → te σ H Q'
def MonT (tt : TT) : Prop := ∀ σ H (Q Q' : Bool → Hp → Prop), (∀ b H1, Q b H1 → Q' b H1) → tt σ H Q → tt σ H Q'
def MonR (r : R2) : Prop := ∀ x y H (Q Q' : VK), (∀ v H1, Q v H1 → Q' v H1) → r x y H Q → r x y H Q'
theorem monE_var {i : Nat} : MonE (tVar i) := fun σ H Q Q' h ⟨v, e, q⟩ => ⟨v, e, h _ _ q⟩
theorem monE_c {v : V} : MonE (tC v) := fun σ H Q Q' h q => h _ _ q
theorem monE_op {r : R2} {ta tb : TE} (hr : MonR r) (ha : MonE ta) (hb : MonE tb) : MonE (tOp r ta tb) := fun σ H Q Q' h q => ha _ _ _ _ (fun x H1 q => hb _ _ _ _ (fun y H2 q => hr _ _ _ _ _ h q) q) q
theorem mon_I0 {g : Int → Int → V} : MonR (rI0 g) := fun x y H Q Q' h ⟨i, j, e1, e2, q⟩ => ⟨i, j, e1, e2, h _ _ q⟩
theorem mon_I {C : Int → Int → Prop} {g : Int → Int → V} : MonR (rI C g) := fun x y H Q Q' h ⟨i, j, e1, e2, c, q⟩ => ⟨i, j, e1, e2, c, h _ _ q⟩
theorem mon_ixL {K : PySem.W.Frag} : MonR (rIxL K) := fun x y H Q Q' h ⟨p, xs, i, v, e1, e2, e3, e4, q⟩ => ⟨p, xs, i, v, e1, e2, e3, e4, h _ _ q⟩
theorem mon_eq : MonR rEq := fun x y H Q Q' h ⟨e, q⟩ => ⟨e, h _ _ q⟩
theorem monT_test {te : TE} (he : MonE te) : MonT (tTest te) := fun σ H Q Q' h q => he _ _ _ _ (fun x H1 ⟨k, e, q⟩ => ⟨k, e, h _ _ q⟩) q
theorem monT_B {te : TE} (he : MonE te) : MonT (tB te) := fun σ H Q Q' h q => he _ _ _ _ (fun x H1 ⟨k, e, q⟩ => ⟨k, e, h _ _ q⟩) q
theorem monT_and {t u : TT} (ht : MonT t) (hu : MonT u) : MonT (tAnd t u) := fun σ H Q Q' h q => ht _ _ _ _ (fun b H1 q => by cases b with | true => exact hu _ _ _ _ h q | false => exact h _ _ q) q
theorem monT_or {t u : TT} (ht : MonT t) (hu : MonT u) : MonT (tOr t u) := fun σ H Q Q' h q => ht _ _ _ _ (fun b H1 q => by cases b with | true => exact h _ _ q | false => exact hu _ _ _ _ h q) q
section
variable {P : Program} {w : World} {K : PySem.W.Frag} {mg : Str → Option Value} {base : Heap} {f : Addr} {fd : FuncData}
def spTake : Sp := fun vs H Q _ => ∃ (st c : Addr) (m : Int), vs = [.ref st, .int m] ∧ StAt H st c ∧ 0 < m ∧ m < 1073741824 ∧ ∀ d H', 0 ≤ d → d < m → StAt H' st c → Kp st H H' → Q (.int d) H'
abbrev s_take : Stmt := top 20
theorem sc_take : FnScope ["_law_state", "_law_many", "_law_laps", "_law_digit"] ["_law_state", "_law_many"] (defScope s_take) := ⟨rfl, rfl, rfl, by decide +kernel, rfl, by decide +kernel, by decide +kernel⟩
theorem ok_take {fF : Addr} {fdF : FuncData} (F : Fun K "_law_take" "_law_take" s_take f fd) (T : Blt mg) (D_fill : DefOk P w K mg base 1 "_law_fill" fF fdF ["_law_state"] spFill) : FnOk P w K mg base CX0 2 f fd ["_law_state", "_law_many"] spTake := by
  refine F.ok sc_take (fun vs H Q E h => ?_) (fun cdv A outer s H vs Q E hr h => ?_)
  · obtain ⟨st, c, m, rfl, _⟩ := h
    rfl
  · obtain ⟨st, c, m, rfl, S, m0, m1, k⟩ := h
    refine ⟨_, (pss_cons (ps_set (i := 2) sc_take.nd rfl (by first | exact Or.inl rfl | exact Or.inr rfl) pe_int)
        (pss_cons (ps_while PassesOwn.never (PW.pt (pw_and (pt_cmpR op_lt (pv 2) pe_int (nomark _)) (pw_and1 (PW.pt (pw_or (pt_cmpR op_eq (pe_ix ix_list (pv 0) pe_int (fun _ _ => rfl)) pe_int (nomark _)) (pw_or1 (PW.pt (pw_and (pt_val (pe_ix ix_list (pv 0) pe_int (fun _ _ => rfl))) (pw_and1 (pt_cmpR op_lt (pe_ix ix_list (pv 0) pe_int (fun _ _ => rfl)) (pe_op op_mul (pv 1) pe_int) (nomark _))))))))))) (pss_cons (ps_expr (pe_d D_fill (hr.mono (by decide)) (pa_cons (pv 0) pa_nil)))
        (pss_cons (ps_aug (i := 2) sc_take.nd rfl (by first | exact Or.inl rfl | exact Or.inr rfl) pe_int ip_add)
        (pss_one (ps_if (PW.pt (pw_and (pt_val (pe_ix ix_list (pv 0) pe_int (fun _ _ => rfl))) (pw_and1 (pt_cmpR op_lt (pe_ix ix_list (pv 0) pe_int (fun _ _ => rfl)) (pe_op op_mul (pv 1) pe_int) (nomark _))))) (pss_one (ps_asg (pe_op op_add (pe_ix ix_list (pv 0) pe_int (fun _ _ => rfl)) (pe_op op_mul (pe_op op_mul (pv 1) pe_int) (pe_op op_add pe_int (pe_op op_modN (pe_callTy call_int1 (by rfl) T.b_int (by decide +kernel) (pa_cons (pe_ix ix_list (pv 0) pe_int (fun _ _ => rfl)) pa_nil)) pe_int)))) (pg_sub (pv 0) pe_int set_list))) pss_nil)))))
        (pss_cons (ps_set (i := 3) sc_take.nd rfl (by first | exact Or.inl rfl | exact Or.inr rfl) (pe_op op_modN (pe_callTy call_int1 (by rfl) T.b_int (by decide +kernel) (pa_cons (pe_ix ix_list (pv 0) pe_int (fun _ _ => rfl)) pa_nil)) (pv 1)))
        (pss_cons (ps_asg (pe_op op_fdivN (pe_ix ix_list (pv 0) pe_int (fun _ _ => rfl)) (pv 1)) (pg_sub (pv 0) pe_int set_list))
        (pss_one (ps_ret (pv 3))))))), ?_⟩
    refine while_by (fun σ' H' => ∃ (i : Nat), σ' = [some (.ref st), some (.int m), some (.int (i : Int)), none] ∧ i ≤ 64 ∧ StAt H' st c ∧ Kp st H H') (fun σ' _ => match σ' with | [_, _, some (.int i), _] => (64 - i).toNat | _ => 0) ⟨0, rfl, by decide, S, Kp.refl _ _⟩ ?_ ?_
    · rintro σ' H' ⟨i, rfl, hi, S', e⟩
      obtain ⟨⟨n, l, b, h1⟩, ⟨ns, h2, hl⟩, ne⟩ := id S'
      -- behind the loop
      have after : tSeq (tAsg (tOp (rI (fun x j => j ≠ 0) fun i j => V.int (i.fmod j)) (tCB (fun xs H Q => (∃ i, xs = [V.int i] ∧ Q (V.int i) H) ∨ ∃ k, xs = [V.bl k] ∧ Q (V.int (if k = true then 1 else 0)) H) (tCons (tOp (rIxL K) (tVar 0) (tC (.int 2))) tNil)) (tVar 1)) (gName 3))
          (tSeq (tAsg (tOp (rI CDivN fun i j => .int (i.fdiv j)) (tOp (rIxL K) (tVar 0) (tC (.int 2))) (tVar 1)) (gSub (tVar 0) (tC (.int 2)) rSetL)) (tRet (tVar 3))) { nx := fun _ H' => Q .non H', rt := Q } [some (.ref st), some (.int m), some (.int (i : Int)), none] H' := by
        refine ⟨_, rfl, _, _, _, _, rfl, rfl, SqL.of h1, rfl, .inl ⟨_, rfl, _, rfl, _, _, rfl, rfl, by omega, ?_⟩⟩
        have hd := fmod_bd l m0
        refine ⟨_, rfl, _, _, _, _, rfl, rfl, SqL.of h1, rfl, _, rfl, _, _, rfl, rfl, ⟨by omega, by omega⟩, _, rfl, _, _, _, _, rfl, rfl, h1, rfl, _, rfl, ?_⟩
        exact k _ _ hd.1 hd.2 ⟨⟨_, _, _, upd_same⟩, ⟨ns, by rw [upd_ne ne]; exact h2, hl⟩, ne⟩ (e.trans (Kp.upd _ _ _))
      refine ⟨_, rfl, _, _, rfl, rfl, _, rfl, ite2 (fun hc => ?_) (fun _ => iteF after)⟩
      have hc : i < 64 := by have := of_decide_eq_true hc; omega
      refine ⟨_, rfl, _, _, _, _, rfl, rfl, SqL.of h1, rfl, rfl, _, rfl, ite2 (fun _ => ?b1) (fun _ => ⟨_, rfl, _, _, _, _, rfl, rfl, SqL.of h1, rfl, _, rfl, ite2 (fun _ => ⟨_, rfl, _, _, _, _, rfl, rfl, SqL.of h1, rfl, _, rfl, _, _, rfl, rfl, .inr ⟨by decide, by decide⟩, _, _, rfl, rfl, _, rfl, ite2 (fun _ => ?b2) (fun _ => ?c1)⟩) (fun _ => ?c2)⟩)⟩
      case c1 => exact after
      case c2 => exact after
      all_goals
        refine ⟨_, rfl, st, c, rfl, S', fun H2 S2 e2 => ?_⟩
        obtain ⟨⟨n2, l2, b2, g1⟩, ⟨ns2, g2, gl⟩, _⟩ := id S2
        have fin : ∀ H3, StAt H3 st c → Kp st H2 H3 → (∃ j : Nat, [some (V.ref st), some (.int m), some (.int ((i : Int) + 1)), none] = [some (.ref st), some (.int m), some (.int (j : Int)), none] ∧ j ≤ 64 ∧ StAt H3 st c ∧ Kp st H H3) ∧ (64 - ((i : Int) + 1)).toNat < (64 - (i : Int)).toNat :=
          fun H3 S3 e3 => ⟨⟨i + 1, by simp, by omega, S3, (e.trans e2).trans e3⟩, by omega⟩
        refine ⟨_, rfl, _, _, rfl, rfl, ?_⟩
        refine ⟨_, rfl, _, _, _, _, rfl, rfl, SqL.of g1, rfl, _, rfl, ite2 (fun _ => ⟨_, rfl, _, _, _, _, rfl, rfl, SqL.of g1, rfl, _, rfl, _, _, rfl, rfl, .inr ⟨by decide, by decide⟩, _, _, rfl, rfl, _, rfl, ite2 (fun _ => ?_) (fun _ => fin _ S2 (Kp.refl _ _))⟩) (fun _ => fin _ S2 (Kp.refl _ _))⟩
        have hr2 := fmod_bd l2 (p := 4093) (by decide)
        refine ⟨_, rfl, _, _, _, _, rfl, rfl, SqL.of g1, rfl, _, rfl, _, _, rfl, rfl, .inr ⟨by decide, by decide⟩, _, rfl, _, _, _, _, rfl, rfl, SqL.of g1, rfl, .inl ⟨_, rfl, _, _, rfl, rfl, (by show (4093 : Int) ≠ 0; decide), _, _, rfl, rfl, _, _, rfl, rfl, .inr ⟨by omega, by omega⟩, _, _, rfl, rfl, _, rfl, _, _, _, _, rfl, rfl, g1, rfl, ?_⟩⟩
        exact fin _ ⟨⟨_, _, _, upd_same⟩, ⟨ns2, by rw [upd_ne ne]; exact g2, gl⟩, ne⟩ (Kp.upd _ _ _)
    · exact monT_and (monT_test (monE_op mon_I0 (monE_var) (monE_c))) (monT_or (monT_test (monE_op mon_eq (monE_op mon_ixL monE_var monE_c) monE_c)) (monT_and (monT_B (monE_op mon_ixL monE_var monE_c)) (monT_test (monE_op mon_I0 (monE_op mon_ixL monE_var monE_c) (monE_op mon_I monE_var monE_c)))))
end
end Lm

namespace Lm
open PySem L2
section
variable {P : Program} {w : World} {K : PySem.W.Frag} {mg : Str → Option Value} {base : Heap} {f : Addr} {fd : FuncData}
def spOneA (K : PySem.W.Frag) : Sp := fun vs H Q _ => ∃ (st c t : Addr) (xs : List V), vs = [.ref st, .ref t] ∧ StAt H st c ∧ t ≠ st ∧ (SqL K H t xs ∨ SqT K H t xs) ∧ 0 < xs.length ∧ xs.length < 1073741824 ∧ ∀ v H', v ∈ xs → StAt H' st c → Kp st H H' → Q v H'
def spOne (K : PySem.W.Frag) : Sp := fun vs H Q _ => ∃ (st c t : Addr) (xs : List V), vs = [.ref st, .ref t] ∧ StAt H st c ∧ t ≠ st ∧ SqT K H t xs ∧ 0 < xs.length ∧ xs.length < 1073741824 ∧ ∀ v H', v ∈ xs → StAt H' st c → Kp st H H' → Q v H'
abbrev s_one : Stmt := top 21
theorem sc_one : FnScope ["_law_state", "_law_things"] ["_law_state", "_law_things"] (defScope s_one) := ⟨rfl, rfl, rfl, by decide +kernel, rfl, by decide +kernel, by decide +kernel⟩
theorem ok_oneA {fT : Addr} {fdT : FuncData} (F : Fun K "_law_one" "_law_one" s_one f fd) (T : Blt mg) (D_take : DefOk P w K mg base 2 "_law_take" fT fdT ["_law_state", "_law_many"] spTake) : FnOk P w K mg base CX0 3 f fd ["_law_state", "_law_things"] (spOneA K) := by
  refine F.ok sc_one (fun vs H Q E h => ?_) (fun cdv A outer s H vs Q E hr h => ?_)
  · obtain ⟨st, c, t, xs, rfl, _⟩ := h
    rfl
  · obtain ⟨st, c, t, xs, rfl, S, hts, hq, l0, l1, k⟩ := h
    refine ⟨_, (pss_one (ps_ret (pe_ix ix_seq (pv 1) (pe_d D_take (hr.mono (by decide)) (pa_cons (pv 0) (pa_cons (pe_callB call_len_seq (by rfl) T.b_len PySem.boot_len (pa_cons (pv 1) pa_nil)) pa_nil))) (fun _ _ => rfl)))), ?_⟩
    refine ⟨_, rfl, _, rfl, _, rfl, _, _, rfl, hq, st, c, _, rfl, S, by omega, by omega, fun d H' d0 d1 S' e => ?_⟩
    have hd : d.toNat < xs.length := by omega
    have at_ := at_of (Int.toNat_of_nonneg d0).symm (List.getElem?_eq_getElem hd)
    have fin := k _ _ (List.getElem_mem hd) S' e
    rcases hq with hq | hq
    · exact .inl ⟨t, xs, d, _, rfl, rfl, e.seqL hts hq, at_, fin⟩
    · exact .inr (.inl ⟨t, xs, d, _, rfl, rfl, e.seqT hts hq, at_, fin⟩)
theorem ok_one {fT : Addr} {fdT : FuncData} (F : Fun K "_law_one" "_law_one" s_one f fd) (T : Blt mg) (D_take : DefOk P w K mg base 2 "_law_take" fT fdT ["_law_state", "_law_many"] spTake) : FnOk P w K mg base CX0 3 f fd ["_law_state", "_law_things"] (spOne K) :=
  (ok_oneA F T D_take).imp fun vs H Q E ⟨st, c, t, xs, h1, h2, h3, h4, h5, h6, h7⟩ => ⟨st, c, t, xs, h1, h2, h3, .inr h4, h5, h6, h7⟩
/-! ### the words -/
def sg (c : Nat) : Str := ⟨#[c]⟩
def two (c d : Nat) : Str := ⟨#[c, d]⟩
def row2 (c : Nat) : List Str := [103, 104, 105, 106, 107, 108, 109, 110, 111, 112].map (two c)
def w0 : List Str := ["a", "b", "k", "zz", "abcdefgh"]
def allW : List Str := w0 ++ [97, 98, 99, 100, 101, 102].flatMap row2
theorem two_eq (c d : Nat) : sg c ++ sg d = two c d := rfl
theorem len1 (c : Nat) : (sg c).length = 1 := rfl
def spAllW : Sp := fun vs H Q _ => vs = [] ∧ ∀ p H', H p = none → Same H H' → H' p = some (.lst (allW.map V.str)) → Q (.ref p) H'
abbrev s_all_words : Stmt := top 23
theorem sc_all_words : FnScope ["_law_found", "_law_x", "_law_y"] [] (defScope s_all_words) := ⟨rfl, rfl, rfl, by decide +kernel, rfl, by decide +kernel, by decide +kernel⟩
theorem sixL : ("abcdef" : Str).cps = #[97, 98, 99, 100, 101, 102] := by decide +kernel
theorem tenL : ("ghijklmnop" : Str).cps = #[103, 104, 105, 106, 107, 108, 109, 110, 111, 112] := by decide +kernel
theorem ok_all_words (F : Fun K "_law_all_words" "_law_all_words" s_all_words f fd) (T : Blt mg) : FnOk P w K mg base CX0 1 f fd [] spAllW := by
  refine F.ok sc_all_words (fun vs H Q E h => ?_) (fun cdv A outer s H vs Q E hr h => ?_)
  · obtain ⟨rfl, _⟩ := h
    rfl
  · obtain ⟨rfl, k⟩ := h
    refine ⟨_, (pss_cons (ps_set (i := 0) sc_all_words.nd rfl (by first | exact Or.inl rfl | exact Or.inr rfl) (pe_lst (pa_cons pe_str (pa_cons pe_str (pa_cons pe_str (pa_cons pe_str (pa_cons pe_str pa_nil)))))))
        (pss_cons (ps_for PassesOwn.never rfl (pi_str pe_str) (pg_name (i := 1) sc_all_words.nd rfl (by first | exact Or.inl rfl | exact Or.inr rfl)) (pss_one (ps_expr (pe_bm PySem.F.plainAttrs_list PySem.F.slot_list_extend PySem.F.type_list_extend mt_extend (pv 0) (by exact (pa_cons (pe_lc (own := [("_law_y", 2)]) (g := gName 2) (tt := tYes) (te := (tOp rAddS (tVar 1) (tVar 2))) rfl sc_all_words.nd (pi_str pe_str) (blkOk_by (own := [("_law_y", 2)]) (by kernel_rfl)) (fun _ _ _ _ _ => (pg_name (i := 2) sc_all_words.nd rfl (by first | exact Or.inl rfl | exact Or.inr rfl))) (fun _ _ _ _ _ => pts_nil) (fun _ _ _ _ _ => by exact (pe_op op_add_str (pv 1) (pv 2)))) pa_nil))))))
        (pss_one (ps_ret (pv 0))))), ?_⟩
    refine ⟨by show 5 ≤ sizeLine; decide, fun p np => ?_⟩
    refine ⟨_, rfl, for_it walk_str (fun i σ' H' => ∃ u v : Option V, σ' = [some (.ref p), u, v] ∧ Same H H' ∧ H' p = some (.lst ((w0 ++ ([97, 98, 99, 100, 101, 102].take i).flatMap row2).map V.str))) ⟨none, none, rfl, Same.upd' np, upd_same⟩ (fun _ _ _ _ _ => True.intro) ?_ ?_⟩
    · rintro i x σ' H' H'' hi ⟨u, v, rfl, e, hp⟩ ⟨rfl, c, hc, rfl⟩
      rw [sixL] at hi hc
      refine ⟨_, rfl, .inl ⟨rfl, _, SqL.of hp⟩, ?_⟩
      refine ⟨_, rfl, fun D nD => lc_it walk_str (fun j H2 => Same H'' H2 ∧ H2 D = some (.lst ((([103, 104, 105, 106, 107, 108, 109, 110, 111, 112].take j).map (two c)).map V.str))) ⟨Same.upd' nD, upd_same⟩ (fun _ _ _ _ => True.intro) ?_ ?_⟩
      · rintro j y H2 H3 hj ⟨g1, g2⟩ ⟨rfl, d, hd, rfl⟩
        rw [tenL] at hj hd
        refine ⟨rfl, _, rfl, _, rfl, sg c, sg d, rfl, rfl, by rw [len1, len1]; decide, _, g2, small1000 (by simp; omega), ?_⟩
        refine ⟨Same.mut g1 nD, ?_⟩
        have hd' : [103, 104, 105, 106, 107, 108, 109, 110, 111, 112][j]? = some d := by simpa using hd
        rw [upd_same, List.take_succ, hd', two_eq]
        simp
      · rintro H2 ⟨g1, g2⟩
        rw [tenL] at g2
        have g2 : H2 D = some (.lst ((row2 c).map V.str)) := g2
        have hDp : D ≠ p := (ne_of_none hp nD).symm
        have hc' : [97, 98, 99, 100, 101, 102][i]? = some c := by simpa using hc
        refine ⟨_, _, _, _, rfl, rfl, g1 _ _ hp, g2, ?_, ?_⟩
        · show _ ≤ sizeLine
          refine Nat.le_of_lt (small1000 ?_)
          have hi' : i ≤ 6 := Nat.le_of_lt hi
          have : ∀ i ≤ 6, ((w0 ++ ([97, 98, 99, 100, 101, 102].take i).flatMap row2).map V.str).length ≤ 800 := by decide +kernel
          have h1 := this i hi'
          have h2 : ((row2 c).map V.str).length = 10 := by simp [row2]
          omega
        · refine ⟨_, _, rfl, Same.mut (e.trans g1) np, ?_⟩
          rw [upd_same, List.take_succ, hc']
          simp
    · rintro σ' H' ⟨u, v, rfl, e, hp⟩
      rw [sixL] at hp
      exact ⟨_, rfl, k p _ np e hp⟩
end
end Lm

namespace Lm
open PySem L2
def isW (x : Str) : Bool := decide (1 ≤ x.cps.size) && decide (x.cps.size ≤ 8) && x.cps.toList.all fun c => decide (97 ≤ c) && decide (c ≤ 122)
theorem allW_nodup : allW.Nodup := by decide +kernel
theorem allW_len : allW.length = 65 := by decide +kernel
theorem allW_word : ∀ x ∈ allW, isW x = true := by decide +kernel
/-- of the words so many, all unlike -/
structure Wds (ws : List Str) (n : Nat) : Prop where
  len : ws.length = n
  nd : ws.Nodup
  wd : ∀ x ∈ ws, isW x = true
theorem perm_erase {α : Type} : ∀ (l : List α) (i : Nat) (h : i < l.length), (l[i] :: l.eraseIdx i).Perm l
  | a :: r, 0, _ => .refl _
  | a :: r, i + 1, h => by
    have := perm_erase r i (by simpa using h)
    exact (List.Perm.swap _ _ _).trans (this.cons a)
theorem erase_map {α β : Type} (g : α → β) : ∀ (l : List α) (i : Nat), (l.map g).eraseIdx i = (l.eraseIdx i).map g
  | [], _ => rfl
  | _ :: _, 0 => rfl
  | a :: r, i + 1 => by
    show g a :: (r.map g).eraseIdx i = g a :: (r.eraseIdx i).map g
    rw [erase_map g r i]
theorem wds_of {F L : List Str} (h : (F ++ L).Perm allW) : Wds F F.length := by
  have nd := h.symm.nodup allW_nodup
  exact ⟨rfl, (List.nodup_append.mp nd).1, fun x hx => allW_word x (h.mem_iff.mp (List.mem_append_left _ hx))⟩
section
variable {P : Program} {w : World} {K : PySem.W.Frag} {mg : Str → Option Value} {base : Heap} {f : Addr} {fd : FuncData}
def spSomeWA : Sp := fun vs H Q _ => ∃ (st c : Addr) (m : Nat), vs = [.ref st, .int m] ∧ StAt H st c ∧ m ≤ 60 ∧ ∀ p ws H', H p = none → Wds ws m → (∀ x ∈ ws, x ∈ allW) → StAt H' st c → Kp st H H' → H' p = some (.lst (ws.map V.str)) → Q (.ref p) H'
def spSomeW : Sp := fun vs H Q _ => ∃ (st c : Addr) (m : Nat), vs = [.ref st, .int m] ∧ StAt H st c ∧ m ≤ 60 ∧ ∀ p ws H', H p = none → Wds ws m → StAt H' st c → Kp st H H' → H' p = some (.lst (ws.map V.str)) → Q (.ref p) H'
abbrev s_some_words : Stmt := top 24
theorem sc_some_words : FnScope ["_law_state", "_law_many", "_law_left", "_law_found", "_law_k"] ["_law_state", "_law_many"] (defScope s_some_words) := ⟨rfl, rfl, rfl, by decide +kernel, rfl, by decide +kernel, by decide +kernel⟩
theorem ok_some_wordsA {fT fW : Addr} {fdT fdW : FuncData} (F : Fun K "_law_some_words" "_law_some_words" s_some_words f fd) (T : Blt mg) (D_take : DefOk P w K mg base 2 "_law_take" fT fdT ["_law_state", "_law_many"] spTake)
    (D_all_words : DefOk P w K mg base 1 "_law_all_words" fW fdW [] spAllW) : FnOk P w K mg base CX0 3 f fd ["_law_state", "_law_many"] spSomeWA := by
  refine F.ok sc_some_words (fun vs H Q E h => ?_) (fun cdv A outer s H vs Q E hr h => ?_)
  · obtain ⟨st, c, m, rfl, _⟩ := h
    rfl
  · obtain ⟨st, c, m, rfl, S, hm, k⟩ := h
    refine ⟨_, (pss_cons (ps_par (i := 2) (j := 3) (by rfl) sc_some_words.nd rfl rfl (by decide) rfl rfl (pa_cons (pe_d0 D_all_words (hr.mono (by decide))) (pa_cons (pe_lst pa_nil) pa_nil)) (by rfl))
        (pss_cons (ps_for PassesOwn.never rfl (pi_range1 rfl T.b_range (pa_cons (pv 1) pa_nil)) (pg_name (i := 4) sc_some_words.nd rfl (by first | exact Or.inl rfl | exact Or.inr rfl)) (pss_one (ps_expr (pe_bm PySem.F.plainAttrs_list PySem.F.slot_list_append PySem.F.type_list_append mt_append (pv 3) (pa_cons (pe_bm PySem.F.plainAttrs_list PySem.F.slot_list_pop PySem.F.type_list_pop mt_popAt (pv 2) (pa_cons (pe_d D_take (hr.mono (by decide)) (pa_cons (pv 0) (pa_cons (pe_callB call_len_seq (by rfl) T.b_len PySem.boot_len (pa_cons (pv 2) pa_nil)) pa_nil))) pa_nil)) pa_nil)))))
        (pss_one (ps_ret (pv 3))))), ?_⟩
    refine ⟨rfl, fun l H1 nl e1 hl => ⟨by show 0 ≤ sizeLine; decide, fun fo nfo => ⟨_, _, rfl, ?_⟩⟩⟩
    have nfo' := e1.free nfo
    have hlf : l ≠ fo := ne_of_none hl nfo
    refine ⟨_, rfl, _, rfl, by omega, by omega, for_range (n := ((m : Int) - 0).toNat) (fun i σ' H' => ∃ (u : Option V) (F L : List Str), σ' = [some (.ref st), some (.int m), some (.ref l), some (.ref fo), u] ∧ F.length = i ∧ (F ++ L).Perm allW ∧ StAt H' st c ∧ Kp st H H' ∧ H' l = some (.lst (L.map V.str)) ∧ H' fo = some (.lst (F.map V.str)))
      ⟨none, [], allW, rfl, rfl, .refl _, (S.same e1).same (Same.upd' nfo), Kp.of (e1.trans (Same.upd' nfo)), by rw [upd_ne hlf]; exact hl, upd_same⟩ ?_ ?_⟩
    · rintro i σ' H' hi ⟨u, F, L, rfl, hF, hp, S', e, gl, gf⟩
      have hi : i < m := by omega
      have hlen : F.length + L.length = 65 := by
        have := hp.length_eq
        rw [List.length_append, allW_len] at this
        exact this
      obtain ⟨hls, hlc⟩ : l ≠ st ∧ l ≠ c := S.of_new nl
      obtain ⟨hfs, hfc⟩ : fo ≠ st ∧ fo ≠ c := S.of_new nfo'
      refine ⟨_, rfl, .inl ⟨rfl, _, SqL.of gf⟩, ?_⟩
      refine ⟨_, rfl, .inl ⟨rfl, _, SqL.of gl⟩, _, rfl, _, rfl, _, _, rfl, .inl (SqL.of gl), st, c, _, rfl, S', by simp; omega, by simp; omega, fun d H2 d0 d1 S2 e2 => ?_⟩
      have gl2 := e2 _ _ hls gl
      have gf2 := e2 _ _ hfs gf
      have hd : d.toNat < L.length := by simp at d1; omega
      refine ⟨l, _, d, d.toNat, _, rfl, rfl, gl2, by omega, by omega, PySem.seqIndex_of d0 (by simpa using d1), (by rw [List.getElem?_map, List.getElem?_eq_getElem hd]; rfl), ?_⟩
      refine ⟨_, _, _, rfl, rfl, by rw [upd_ne hlf.symm]; exact gf2, small1000 (by simp; omega), ?_⟩
      refine ⟨_, F ++ [L[d.toNat]], L.eraseIdx d.toNat, rfl, by simp [hF], ?_, (S2.mut hls hlc).mut hfs hfc, Kp.mut (Kp.mut (e.trans e2) nl) nfo', ?_, ?_⟩
      · refine List.Perm.trans ?_ hp
        rw [List.append_assoc]
        exact (perm_erase L d.toNat hd).append_left F
      · rw [upd_ne hlf, upd_same, erase_map]
      · rw [upd_same]
        simp
    · rintro σ' H' ⟨u, F, L, rfl, hF, hp, S', e, gl, gf⟩
      have hF : F.length = m := by omega
      exact ⟨_, rfl, k fo F H' nfo' (hF ▸ wds_of hp) (fun x hx => hp.mem_iff.mp (List.mem_append_left _ hx)) S' e gf⟩
theorem ok_some_words {fT fW : Addr} {fdT fdW : FuncData} (F : Fun K "_law_some_words" "_law_some_words" s_some_words f fd) (T : Blt mg) (D_take : DefOk P w K mg base 2 "_law_take" fT fdT ["_law_state", "_law_many"] spTake)
    (D_all_words : DefOk P w K mg base 1 "_law_all_words" fW fdW [] spAllW) : FnOk P w K mg base CX0 3 f fd ["_law_state", "_law_many"] spSomeW :=
  (ok_some_wordsA F T D_take D_all_words).imp fun vs H Q E ⟨st, c, m, h1, h2, h3, h4⟩ => ⟨st, c, m, h1, h2, h3, fun p ws H' a b _ d e g => h4 p ws H' a b d e g⟩
def spKept : Sp := fun vs H Q _ => ∃ (st c : Addr) (m : Nat), vs = [.ref st, .int m] ∧ StAt H st c ∧ m ≤ 60 ∧ ∀ p (S : Nat → Bool) H', H p = none → StAt H' st c → Kp st H H' → H' p = some (.lst (((List.range m).filter S).map fun i : Nat => V.int i)) → Q (.ref p) H'
end
end Lm

namespace Lm
open PySem L2
section
variable {P : Program} {w : World} {K : PySem.W.Frag} {mg : Str → Option Value} {base : Heap} {f : Addr} {fd : FuncData}
abbrev c_LETTERS : V := .str "abcdefghijklmnopqrstuvwxyz"
abbrev c_LONGEST_WORD : V := .int 8
/-- the module's constants -/
structure Cst (mg : Str → Option Value) (tL tW : Tok) : Prop where
  g_LETTERS : mg "LETTERS" = some (.str "abcdefghijklmnopqrstuvwxyz" tL)
  g_LONGEST_WORD : mg "LONGEST_WORD" = some (.int 8 tW)
def SeqAt (H : Hp) (a : Addr) (xs : List V) : Prop := H a = some (.lst xs) ∨ H a = some (.tup xs)
/-- is_number: of an int -/
def spIsNum : Sp := fun vs H Q _ => ∃ i : Int, vs = [.int i] ∧ Q (.bl true) H
def spUpTo : Sp := fun vs H Q _ => ∃ i n : Int, vs = [.int i, .int n] ∧ Q (.bl (decide (0 ≤ i ∧ i ≤ n))) H
def spIsRow : Sp := fun vs H Q _ => ∃ a xs, vs = [.ref a] ∧ SeqAt H a xs ∧ ∀ H', Same H H' → Q (.bl true) H'
abbrev s_is_row : Stmt := top 4
theorem sc_is_row : FnScope ["x"] ["x"] (defScope s_is_row) := ⟨rfl, rfl, rfl, by decide +kernel, rfl, by decide +kernel, by decide +kernel⟩
theorem ok_is_row (F : Fun K "is_row" "is_row" s_is_row f fd) (T : Blt mg) : FnOk P w K mg base CX0 1 f fd ["x"] spIsRow := by
  refine F.ok sc_is_row (fun vs H Q E h => ?_) (fun cdv A outer s H vs Q E hr h => ?_)
  · obtain ⟨a, xs, rfl, _⟩ := h
    rfl
  · obtain ⟨a, xs, rfl, hq, k⟩ := h
    refine ⟨_, (pss_one (ps_ret (pe_callB call_isiT (by rfl) T.b_isinstance (by decide +kernel) (pa_cons (pv 0) (pa_cons (pe_tup (pa_cons (pe_bltn (v := .ty "list") (u := .type "list") (by rfl) T.b_list (by decide +kernel) rfl) (pa_cons (pe_bltn (v := .ty "tuple") (u := .type "tuple") (by rfl) T.b_tuple (by decide +kernel) rfl) pa_nil))) pa_nil))))), ?_⟩
    refine ⟨_, rfl, by show 2 ≤ sizeLine; decide, fun p np => ?_⟩
    rcases hq with hq | hq
    · exact ⟨_, _, _, _, _, true, rfl, upd_same, .cons (.ty _) (.cons (.ty _) .nil), .base (.lst (by rw [upd_ne (ne_of_none hq np)]; exact hq)), kitAny_cons (b := true) (kit_ty (by decide +kernel)) (fun z => nomatch z) (fun _ => rfl), k _ (Same.upd' np)⟩
    · exact ⟨_, _, _, _, _, true, rfl, upd_same, .cons (.ty _) (.cons (.ty _) .nil), .base (.tup (by rw [upd_ne (ne_of_none hq np)]; exact hq)), kitAny_cons (b := false) (kit_ty (by decide +kernel)) (fun _ => kitAny_cons (b := true) (kit_ty (by decide +kernel)) (fun z => nomatch z) (fun _ => rfl)) (fun z => nomatch z), k _ (Same.upd' np)⟩
theorem isW_sign (c : Nat) : decide (c ∈ ("abcdefghijklmnopqrstuvwxyz" : Str).cps.toList) = (decide (97 ≤ c) && decide (c ≤ 122)) := by
  have e : ("abcdefghijklmnopqrstuvwxyz" : Str).cps.toList = List.range' 97 26 := by decide +kernel
  rw [e]
  simp only [List.mem_range'_1]
  by_cases h1 : 97 ≤ c <;> by_cases h2 : c ≤ 122 <;> simp [h1, h2] <;> omega
def spIsWord : Sp := fun vs H Q _ => ∃ x : Str, vs = [.str x] ∧ x.cps.size ≤ 1000 ∧ ∀ H', Same H H' → Q (.bl (isW x)) H'
abbrev s_is_word : Stmt := top 5
theorem sc_is_word : FnScope ["x", "sign"] ["x"] (defScope s_is_word) := ⟨rfl, rfl, rfl, by decide +kernel, rfl, by decide +kernel, by decide +kernel⟩
theorem ok_is_word (F : Fun K "is_word" "is_word" s_is_word f fd) (T : Blt mg) {tL tW : Tok} (T' : Cst mg tL tW) : FnOk P w K mg base CX0 1 f fd ["x"] spIsWord := by
  refine F.ok sc_is_word (fun vs H Q E h => ?_) (fun cdv A outer s H vs Q E hr h => ?_)
  · obtain ⟨x, rfl, _⟩ := h
    rfl
  · obtain ⟨x, rfl, hx, k⟩ := h
    refine ⟨_, (pss_cons (ps_if (pt_not (pt_val (pe_callB call_isi (by rfl) T.b_isinstance (by decide +kernel) (pa_cons (pv 0) (pa_cons (pe_bltn (v := .ty "str") (u := .type "str") (by rfl) T.b_str (by decide +kernel) rfl) pa_nil))))) (pss_one (ps_ret pe_bl)) pss_nil)
        (pss_one (ps_ret (pe_and (pe_chain op_le op_le pe_int (pe_callB call_len_str (by rfl) T.b_len PySem.boot_len (pa_cons (pv 0) pa_nil)) (pe_glob (v := c_LONGEST_WORD) rfl T'.g_LONGEST_WORD ⟨_, rfl⟩)) (pe_one (pe_callB (cr_all rfl) (by rfl) T.b_all (by decide +kernel) (by exact (pa_cons (pe_lc (own := [("sign", 1)]) (g := gName 1) (tt := tYes)/- R cmp -/ rfl sc_is_word.nd (pi_str (pv 0)) (blkOk_by (own := [("sign", 1)]) (by kernel_rfl)) (fun _ _ _ _ _ => (pg_name (i := 1) sc_is_word.nd rfl (by first | exact Or.inl rfl | exact Or.inr rfl))) (fun _ _ _ _ _ => pts_nil) (fun _ _ _ _ _ => by exact (pe_cmpR op_in_sign (pv 1) (pe_glob (v := c_LETTERS) rfl T'.g_LETTERS ⟨_, rfl⟩) rfl))) pa_nil)))))))), ?_⟩
    refine ⟨_, rfl, _, _, _, _, true, rfl, .ty _, .base (.str x), kit_ty (by decide +kernel), true, rfl, ?_⟩
    have hx' : x.length ≤ sizeLine := Nat.le_of_lt (small1000 hx)
    have hl : x.length = x.cps.size := rfl
    refine ⟨_, rfl, _, rfl, hx', _, _, rfl, rfl, _, rfl, ite2 (fun h0 => ?_) (fun h0 => ?_)⟩
    · have h0 : 1 ≤ x.cps.size := by have := of_decide_eq_true h0; omega
      refine ⟨_, _, rfl, rfl, _, rfl, ite2 (fun h1 => ?_) (fun h1 => ?_)⟩
      · have h1 : x.cps.size ≤ 8 := by have := of_decide_eq_true h1; omega
        refine ⟨_, rfl, x, rfl, fun D nD => lc_it walk_str (fun j H' => Same H H' ∧ H' D = some (.lst (((x.cps.toList.take j).map fun c => decide (97 ≤ c) && decide (c ≤ 122)).map V.bl))) ⟨Same.upd' nD, upd_same⟩ (fun _ _ _ _ => True.intro) ?_ ?_⟩
        · rintro j y H' H'' hj ⟨e, hD⟩ ⟨rfl, c, hc, rfl⟩
          refine ⟨rfl, _, rfl, _, _, rfl, rfl, _, hD, small1000 (by simp; omega), Same.mut e nD, ?_⟩
          have hc' : x.cps.toList[j]? = some c := by simpa using hc
          rw [upd_same, List.take_succ, hc', isW_sign]
          simp
        · rintro H' ⟨e, hD⟩
          refine ⟨_, _, rfl, SqL.of hD, ?_⟩
          have e2 : (((x.cps.toList.take x.cps.size).map fun c => decide (97 ≤ c) && decide (c ≤ 122)).all id) = isW x := by
            unfold isW
            rw [show x.cps.size = x.cps.toList.length from by simp, List.take_length]
            simp [h0, h1]
          have q := k H' e
          rw [← e2] at q
          exact q
      · have h1 : ¬ x.cps.size ≤ 8 := fun z => h1 (decide_eq_true (by show (x.length : Int) ≤ 8; omega))
        have e2 : isW x = false := by unfold isW; simp [h1]
        have q := k H (Same.refl H)
        rw [e2] at q
        exact q
    · have h0 : ¬ 1 ≤ x.cps.size := fun z => h0 (decide_eq_true (by show (1 : Int) ≤ x.length; omega))
      have e2 : isW x = false := by unfold isW; simp [h0]
      have q := k H (Same.refl H)
      rw [e2] at q
      exact ⟨false, rfl, q⟩
end
end Lm

namespace Lm
open PySem L2
/-! ### a work as it stands in the heap -/
theorem n_nw : ¬ (("name" : Str) = "words") := by decide +kernel
theorem n_ne : ¬ (("name" : Str) = "ends") := by decide +kernel
theorem n_we : ¬ (("words" : Str) = "ends") := by decide +kernel
def wkF (nm : Str) (t d : Addr) : List (Str × V) := [("name", .str nm), ("words", .ref t), ("ends", .ref d)]
theorem wk_name (nm : Str) (t d : Addr) : (wkF nm t d).lookup ("name" : Str) = some (.str nm) := by simp [wkF, List.lookup]
theorem wk_words (nm : Str) (t d : Addr) : (wkF nm t d).lookup ("words" : Str) = some (.ref t) := by
  have e : (("words" : Str) == "name") = false := by decide +kernel
  simp [wkF, List.lookup, e]
theorem wk_ends (nm : Str) (t d : Addr) : (wkF nm t d).lookup ("ends" : Str) = some (.ref d) := by
  have e : (("ends" : Str) == "name") = false := by decide +kernel
  have e2 : (("ends" : Str) == "words") = false := by decide +kernel
  simp [wkF, List.lookup, e, e2]
theorem wk_no (nm : Str) (t d : Addr) {m : Str} (h1 : (m == "name") = false) (h2 : (m == "words") = false) (h3 : (m == "ends") = false) : (wkF nm t d).lookup m = none := by simp [wkF, List.lookup, h1, h2, h3]
theorem wk_put (nm : Str) (t d : Addr) : putF "ends" (.ref d) (putF "words" (.ref t) (putF "name" (.str nm) [])) = wkF nm t d := by
  simp [putF, wkF, n_nw, n_ne, n_we]
theorem wk_l1 (nm : Str) : (putF "name" (.str nm) []).length < 1000 := by simp [putF]
theorem wk_l2 (nm : Str) (t : Addr) : (putF "words" (.ref t) (putF "name" (.str nm) [])).length < 1000 := by simp [putF, n_nw]
/-- the cuts behind the words -/
def endsL : Nat → List Str → List (Key × V)
  | _, [] => []
  | n, x :: r => (Sum.inr x, V.int ((n : Int) + 1)) :: endsL (n + 1) r
theorem endsL_len : ∀ n ws, (endsL n ws).length = ws.length
  | _, [] => rfl
  | n, x :: r => by show (endsL (n + 1) r).length + 1 = r.length + 1; rw [endsL_len]
theorem endsL_app : ∀ n ws x, endsL n (ws ++ [x]) = endsL n ws ++ [(Sum.inr x, V.int ((n : Int) + (ws.length : Int) + 1))]
  | n, [], x => by simp [endsL]
  | n, y :: r, x => by
    show _ :: endsL (n + 1) (r ++ [x]) = _ :: (endsL (n + 1) r ++ _)
    rw [endsL_app (n + 1) r x]
    congr 4
    simp only [List.length_cons]
    congr 1
    omega
theorem endsL_no : ∀ n ws (x : Str), x ∉ ws → valV (endsL n ws) (Sum.inr x : Key) = none
  | _, [], _, _ => rfl
  | n, y :: r, x, h => by
    have h1 : ¬ ((Sum.inr y : Key) = Sum.inr x) := fun e => h (by rw [← Sum.inr.inj e]; exact List.mem_cons_self)
    unfold endsL
    rw [valV_neg h1]
    exact endsL_no (n + 1) r x fun z => h (List.mem_cons_of_mem _ z)
theorem endsL_at : ∀ n ws (i : Nat) (x : Str), ws.Nodup → ws[i]? = some x → valV (endsL n ws) (Sum.inr x : Key) = some (V.int ((n : Int) + (i : Int) + 1))
  | _, [], i, _, _, h => by simp at h
  | n, y :: r, 0, x, _, h => by
    have e : y = x := Option.some.inj h
    subst e
    unfold endsL
    rw [valV_pos rfl]
    simp
  | n, y :: r, i + 1, x, nd, h => by
    have hx : r[i]? = some x := h
    have ne : ¬ ((Sum.inr y : Key) = Sum.inr x) := fun e => (List.nodup_cons.mp nd).1 (by rw [Sum.inr.inj e]; exact List.mem_of_getElem? hx)
    unfold endsL
    rw [valV_neg ne, endsL_at (n + 1) r i x (List.nodup_cons.mp nd).2 hx]
    congr 2
    omega
/-- the work of the name nm and the words ws, at a -/
structure WkAt (C : Addr) (H : Hp) (a : Addr) (nm : Str) (ws : List Str) : Prop where
  ob : ∃ dx t d, H a = some (.ins C dx (wkF nm t d)) ∧ H t = some (.tup (ws.map V.str)) ∧ H d = some (.dK (endsL 0 ws))
theorem WkAt.same {C : Addr} {H H' : Hp} {a : Addr} {nm : Str} {ws : List Str} (k : WkAt C H a nm ws) (e : Same H H') : WkAt C H' a nm ws := by
  obtain ⟨⟨dx, t, d, h1, h2, h3⟩⟩ := k
  exact ⟨⟨dx, t, d, e _ _ h1, e _ _ h2, e _ _ h3⟩⟩
/-- what stands at st changes, a list -/
theorem WkAt.kp {C st : Addr} {H H' : Hp} {a : Addr} {nm : Str} {ws : List Str} {xs : List V} (k : WkAt C H a nm ws) (e : Kp st H H') (hs : H st = some (.lst xs)) : WkAt C H' a nm ws := by
  obtain ⟨⟨dx, t, d, h1, h2, h3⟩⟩ := k
  exact ⟨⟨dx, t, d, e _ _ (ne_of h1 hs (by intro z; cases z)) h1, e _ _ (ne_of h2 hs (by intro z; cases z)) h2, e _ _ (ne_of h3 hs (by intro z; cases z)) h3⟩⟩
/-- for i, x in enumerate(a), a list or a tuple that stands still -/
theorem for_enumA {K : PySem.W.Frag} {a : Addr} {xs : List V} {g : TG} {tb : TS} {D : Ends} {σ : St} {H : Hp} (hq : SeqAt H a xs) (Pv : Nat → St → Hp → Prop) (h0 : Pv 0 σ H) (hG : ∀ i σ' H', i ≤ xs.length → Pv i σ' H' → ∀ o, H a = some o → H' a = some o)
    (hs : ∀ i x σ H H', i < xs.length → Pv i σ H → YPair (fun i => some (.int (i : Nat))) (fun i => xs[i]?) i H x H' → g x σ H' fun σ2 H2 => tb { D with nx := Pv (i + 1), ct := Pv (i + 1), bk := D.nx } σ2 H2) (hd : ∀ σ H, Pv xs.length σ H → D.nx σ H) :
    ∃ a' xs', [V.ref a] = [V.ref a'] ∧ ((SqL K H a' xs' ∧ ∃ W : Nat → Nat → St → Hp → Prop, (∃ m, W 0 m σ H) ∧ ∀ i m σ H, W i m σ H →
      ((Ite K a').stop i H ∧ D.nx σ H) ∨ ((Ite K a').go i H ∧ ∃ N : St → Hp → Prop, (∀ σ' H', N σ' H' → ∃ m', m' < m ∧ W (i + 1) m' σ' H') ∧ ∀ x H', (Ite K a').yld i H x H' → g x σ H' fun σ2 H2 => tb { D with nx := N, ct := N, bk := D.nx } σ2 H2)) ∨
      (SqT K H a' xs' ∧ ∃ W : Nat → Nat → St → Hp → Prop, (∃ m, W 0 m σ H) ∧ ∀ i m σ H, W i m σ H →
      ((IteT K a').stop i H ∧ D.nx σ H) ∨ ((IteT K a').go i H ∧ ∃ N : St → Hp → Prop, (∀ σ' H', N σ' H' → ∃ m', m' < m ∧ W (i + 1) m' σ' H') ∧ ∀ x H', (IteT K a').yld i H x H' → g x σ H' fun σ2 H2 => tb { D with nx := N, ct := N, bk := D.nx } σ2 H2))) := by
  rcases hq with hq | hq
  · exact ⟨a, xs, rfl, .inl ⟨SqL.of hq, for_it walk_enum Pv h0 (fun i σ' H' hi p => SqL.of (hG i σ' H' hi p _ hq)) hs hd⟩⟩
  · exact ⟨a, xs, rfl, .inr ⟨SqT.of hq, for_it walk_enumT Pv h0 (fun i σ' H' hi p => SqT.of (hG i σ' H' hi p _ hq)) hs hd⟩⟩
section
variable {P : Program} {w : World} {K : PySem.W.Frag} {mg : Str → Option Value} {base : Heap} {f : Addr} {fd : FuncData}
/-- what the walk asks of the class Work -/
structure WkTxt (K : PySem.W.Frag) (C : Addr) : Prop where
  cl : Cls K C
  nN : NoAttr K C "name"
  nW : NoAttr K C "words"
  nE : NoAttr K C "ends"
def spWkInit (C : Addr) : Sp := fun vs H Q _ => ∃ (p dx a : Addr) (nm : Str) (ws : List Str), vs = [.ref p, .str nm, .ref a] ∧ H p = some (.ins C dx []) ∧ SeqAt H a (ws.map V.str) ∧ isW nm = true ∧ Wds ws ws.length ∧ 0 < ws.length ∧ ws.length ≤ 60 ∧
  ∀ H', WkAt C H' p nm ws → Kp p H H' → Q .non H'
theorem isW_size {x : Str} (h : isW x = true) : x.cps.size ≤ 1000 := by
  unfold isW at h
  simp at h
  omega
end
end Lm

namespace Lm
open PySem L2
theorem valV_mem {ws : List Str} (nd : ws.Nodup) (x : Str) : (valV (endsL 0 ws) (Sum.inr x : Key)).isSome = decide (x ∈ ws) := by
  by_cases h : x ∈ ws
  · obtain ⟨i, hi, e⟩ := List.mem_iff_getElem.mp h
    rw [endsL_at 0 ws i x nd (by rw [List.getElem?_eq_getElem hi, e]), decide_eq_true h]
    rfl
  · rw [endsL_no 0 ws x h, decide_eq_false h]
    rfl
section
variable {P : Program} {w : World} {K : PySem.W.Frag} {mg : Str → Option Value} {base : Heap} {f : Addr} {fd : FuncData}
def spWkLen (C : Addr) : Sp := fun vs H Q _ => ∃ (a : Addr) (nm : Str) (ws : List Str), vs = [.ref a] ∧ WkAt C H a nm ws ∧ Q (.int ws.length) H
def spWkIn (C : Addr) : Sp := fun vs H Q _ => ∃ (a : Addr) (x nm : Str) (ws : List Str), vs = [.ref a, .str x] ∧ WkAt C H a nm ws ∧ ws.Nodup ∧ Q (.bl (decide (x ∈ ws))) H
def spWkEnd (C : Addr) : Sp := fun vs H Q _ => ∃ (a : Addr) (x nm : Str) (ws : List Str) (i : Nat), vs = [.ref a, .str x] ∧ WkAt C H a nm ws ∧ ws.Nodup ∧ ws[i]? = some x ∧ Q (.int ((i : Int) + 1)) H
/-! ### == -/
theorem dpAll_strs {H : Hp} : ∀ ws : List Str, DpAll K H (ws.map V.str) (ws.map PyData.str)
  | [] => .nil
  | x :: r => .cons (.str x) (dpAll_strs r)
theorem isW_ok {x : Str} (h : isW x = true) : PyData.strOk x = true := by
  unfold isW at h
  simp only [Bool.and_eq_true, List.all_eq_true, decide_eq_true_eq] at h
  unfold PyData.strOk
  rw [Array.all_eq_true']
  intro c hc
  have := (h.2 c (by simpa using hc)).2
  simp
  omega
theorem depth_strs : ∀ ws : List Str, PyData.depthAll (ws.map PyData.str) = 0
  | [] => rfl
  | x :: r => by
    show max (PyData.depth (.str x)) (PyData.depthAll (r.map PyData.str)) = 0
    rw [depth_strs r]
    rfl
theorem lay_strs : ∀ ws : List Str, (∀ x ∈ ws, isW x = true) → PyData.canLayAll0 (ws.map PyData.str) = true
  | [], _ => rfl
  | x :: r, h => by
    show (PyData.strOk x && PyData.canLayAll0 (r.map PyData.str)) = true
    rw [isW_ok (h x List.mem_cons_self), lay_strs r fun y hy => h y (List.mem_cons_of_mem _ hy)]
    rfl
theorem shaped_strs (ws : List Str) (h : ∀ x ∈ ws, isW x = true) : PySem.SeqAt.shaped (.tuple (ws.map PyData.str)) = true := by
  show (PyData.canLayAll0 (ws.map PyData.str) && decide (PyData.depthAll (ws.map PyData.str) + 1 ≤ 64)) = true
  rw [lay_strs ws h, depth_strs]
  rfl
theorem eqvAll_strs : ∀ ws vs : List Str, PyData.eqvAll (ws.map PyData.str) (vs.map PyData.str) = decide (ws = vs)
  | [], [] => rfl
  | [], _ :: _ => rfl
  | _ :: _, [] => rfl
  | x :: r, y :: t => by
    show ((x == y) && PyData.eqvAll (r.map PyData.str) (t.map PyData.str)) = decide (x :: r = y :: t)
    rw [eqvAll_strs r t]
    by_cases h1 : x = y <;> by_cases h2 : r = t <;> simp [h1, h2]
theorem eqv_strs (ws vs : List Str) : PyData.eqv (.tuple (ws.map PyData.str)) (.tuple (vs.map PyData.str)) = decide (ws = vs) := eqvAll_strs ws vs
def spWkEq (C : Addr) : Sp := fun vs H Q _ => ∃ (a b : Addr) (nm nm' : Str) (ws ws' : List Str), vs = [.ref a, .ref b] ∧ WkAt C H a nm ws ∧ WkAt C H b nm' ws' ∧ (∀ x ∈ ws, isW x = true) ∧ (∀ x ∈ ws', isW x = true) ∧ Q (.bl (decide (nm = nm' ∧ ws = ws'))) H
structure WkIsi (K : PySem.W.Frag) (mg : Str → Option Value) (C : Addr) : Prop where
  g_Work : mg "Work" = some (.ref C)
  ha : PySem.W.findIn K (.ref C) "__class__" = some (some (.builtin "object.__class__"))
  hn : PySem.W.specialIn K (.builtin "object.__class__") "__get__" = some (some (.builtin "getset_descriptor.__get__"))
  htk : PySem.W.takesIn K (.builtin "object.__class__") = some true
  hm : PySem.W.mroIn K C (.type "object") = some true
  ko : PySem.W.kitOne K (.ref C) (.ref C) = some true
end
end Lm

namespace Lm
open PySem L2 Evl RZ
structure EdIsi (K : PySem.W.Frag) (mg : Str → Option Value) (C : Addr) : Prop where
  g_Edition : mg "Edition" = some (.ref C)
  ha : PySem.W.findIn K (.ref C) "__class__" = some (some (.builtin "object.__class__"))
  hn : PySem.W.specialIn K (.builtin "object.__class__") "__get__" = some (some (.builtin "getset_descriptor.__get__"))
  htk : PySem.W.takesIn K (.builtin "object.__class__") = some true
  hm : PySem.W.mroIn K C (.type "object") = some true
  ko : PySem.W.kitOne K (.ref C) (.ref C) = some true
/-! ### two things that are the same, of depth below d -/
def SameV (H : Hp) : Nat → V → V → Prop
  | 0 => fun _ _ => False
  | d + 1 => fun x y => (∃ i, x = .int i ∧ y = .int i) ∨ (∃ b, x = .bl b ∧ y = .bl b) ∨ (∃ s, x = .str s ∧ y = .str s) ∨ (x = .non ∧ y = .non) ∨
    (∃ a b xs ys, x = .ref a ∧ y = .ref b ∧ H a = some (.lst xs) ∧ H b = some (.lst ys) ∧ xs.length = ys.length ∧ xs.length ≤ 40000 ∧ ∀ (i : Nat) u v, xs[i]? = some u → ys[i]? = some v → SameV H d u v) ∨
    (∃ a b xs ys, x = .ref a ∧ y = .ref b ∧ H a = some (.tup xs) ∧ H b = some (.tup ys) ∧ xs.length = ys.length ∧ xs.length ≤ 40000 ∧ ∀ (i : Nat) u v, xs[i]? = some u → ys[i]? = some v → SameV H d u v) ∨ (∃ a ks, x = .ref a ∧ y = .ref a ∧ H a = some (.dK ks) ∧ (ks.map (·.1)).Nodup)
theorem SameV.ex {H H' : Hp} (e : Ex H H') : ∀ {d : Nat} {x y : V}, SameV H d x y → SameV H' d x y
  | 0, _, _, h => h
  | d + 1, x, y, h => by
    rcases h with h | h | h | h | ⟨a, b, xs, ys, rfl, rfl, ha, hb, h1, h2, h3⟩ | ⟨a, b, xs, ys, rfl, rfl, ha, hb, h1, h2, h3⟩ | ⟨a, ks, rfl, rfl, ha, hd⟩
    · exact .inl h
    · exact .inr (.inl h)
    · exact .inr (.inr (.inl h))
    · exact .inr (.inr (.inr (.inl h)))
    · exact .inr (.inr (.inr (.inr (.inl ⟨a, b, xs, ys, rfl, rfl, e _ _ ha, e _ _ hb, h1, h2, fun i u v q1 q2 => SameV.ex e (h3 i u v q1 q2)⟩))))
    · exact .inr (.inr (.inr (.inr (.inr (.inl ⟨a, b, xs, ys, rfl, rfl, e _ _ ha, e _ _ hb, h1, h2, fun i u v q1 q2 => SameV.ex e (h3 i u v q1 q2)⟩)))))
    · exact .inr (.inr (.inr (.inr (.inr (.inr ⟨a, ks, rfl, rfl, e _ _ ha, hd⟩)))))
theorem SameV.int {H : Hp} {d : Nat} (i : Int) : SameV H (d + 1) (.int i) (.int i) := .inl ⟨i, rfl, rfl⟩
theorem SameV.bl {H : Hp} {d : Nat} (i : Bool) : SameV H (d + 1) (.bl i) (.bl i) := .inr (.inl ⟨i, rfl, rfl⟩)
theorem SameV.str {H : Hp} {d : Nat} (i : Str) : SameV H (d + 1) (.str i) (.str i) := .inr (.inr (.inl ⟨i, rfl, rfl⟩))
theorem SameV.non {H : Hp} {d : Nat} : SameV H (d + 1) .non .non := .inr (.inr (.inr (.inl ⟨rfl, rfl⟩)))
theorem SameV.lst {H : Hp} {d : Nat} {a b : Addr} {xs ys : List V} (ha : H a = some (.lst xs)) (hb : H b = some (.lst ys)) (h1 : xs.length = ys.length) (h2 : xs.length ≤ 40000) (h3 : ∀ (i : Nat) u v, xs[i]? = some u → ys[i]? = some v → SameV H d u v) : SameV H (d + 1) (.ref a) (.ref b) :=
  .inr (.inr (.inr (.inr (.inl ⟨a, b, xs, ys, rfl, rfl, ha, hb, h1, h2, h3⟩))))
theorem SameV.tup {H : Hp} {d : Nat} {a b : Addr} {xs ys : List V} (ha : H a = some (.tup xs)) (hb : H b = some (.tup ys)) (h1 : xs.length = ys.length) (h2 : xs.length ≤ 40000) (h3 : ∀ (i : Nat) u v, xs[i]? = some u → ys[i]? = some v → SameV H d u v) : SameV H (d + 1) (.ref a) (.ref b) :=
  .inr (.inr (.inr (.inr (.inr (.inl ⟨a, b, xs, ys, rfl, rfl, ha, hb, h1, h2, h3⟩)))))
theorem SameV.dct {H : Hp} {d : Nat} {a : Addr} {ks : List (Key × V)} (ha : H a = some (.dK ks)) (hd : (ks.map (·.1)).Nodup) : SameV H (d + 1) (.ref a) (.ref a) := .inr (.inr (.inr (.inr (.inr (.inr ⟨a, ks, rfl, rfl, ha, hd⟩)))))
theorem rv_eqD {H : Hp} {x y : V} (h : scal x y = true) : RV (fun x y H Q => rEq x y H Q ∨ rEqSelf x y H Q) x y H (.bl (decide (x = y))) := fun H1 _ _ q => .inl ⟨h, q H1 (Ex.refl H1)⟩
theorem rv_eqDd {H : Hp} {a : Addr} {ks : List (Key × V)} (h : H a = some (.dK ks)) (hd : (ks.map (·.1)).Nodup) : RV (fun x y H Q => rEq x y H Q ∨ rEqSelf x y H Q) (.ref a) (.ref a) H (.bl true) := fun H1 e _ q => .inr ⟨a, ks, rfl, rfl, e _ _ h, hd, q H1 (Ex.refl H1)⟩
/-- lists of flat things alike -/
theorem SameV.flat {H : Hp} {d : Nat} {a b : Addr} {xs : List V} (ha : H a = some (.lst xs)) (hb : H b = some (.lst xs)) (h2 : xs.length ≤ 40000) (h : ∀ x ∈ xs, SameV H (d + 1) x x) : SameV H (d + 2) (.ref a) (.ref b) :=
  .lst ha hb rfl h2 fun i u v q1 q2 => by
    rw [q1] at q2
    cases (Option.some.inj q2)
    exact h u (List.mem_of_getElem? q1)
theorem ok_none {P : Program} {w : World} {K : PySem.W.Frag} {mg : Str → Option Value} {base : Heap} {f : Addr} {fd : FuncData} {k : Nat} {ps : List Str} : FnOk P w K mg base CX0 k f fd ps (fun _ _ _ _ => False) :=
  ⟨fun _ _ _ _ h => h.elim, fun _ _ _ _ _ _ _ _ _ _ _ _ _ h => h.elim⟩
section
variable {K : PySem.W.Frag} {σ : L2.St} {H : Hp} {te : TE}
theorem ev_isi {x c : V} {t u : Value} {b : Bool} (h : Ev te σ H x) (hc : ClsV c u) (ht : ∀ H1, Ex H H1 → TyX K H1 x t) (hk : PySem.W.kitOne K t u = some b) : Ev (tCB (rIsi K) (tCons te (tCons (tC c) tNil))) σ H (.bl b) :=
  ev_cb (ea_cons h (ea_cons ev_c ea_nil)) fun H1 e Q q => ⟨x, c, t, u, b, rfl, hc, ht H1 e, hk, q H1 (Ex.refl _)⟩
theorem ev_isiT {x : V} {cs : List V} {t : Value} {us : List Value} {b : Bool} {ta : TA} (h : Ev te σ H x) (hcs : EvA ta σ H cs) (hl : cs.length ≤ 100000) (hc : Paired ClsV cs us) (ht : ∀ H1, Ex H H1 → TyX K H1 x t) (hk : PySem.W.kitAny K t us = some b) :
    Ev (tCB (rIsiT K) (tCons te (tCons (tTup ta) tNil))) σ H (.bl b) := fun H1 e Q q => h H1 e _ fun H2 e2 => hcs H2 (e.trans e2) _ fun H3 e3 => ⟨sz_of hl, fun p np =>
      ⟨x, p, cs, t, us, b, rfl, upd_same, hc, ht _ (((e.trans e2).trans e3).trans (Ex.new np)), hk, q _ ((e2.trans e3).trans (Ex.new np))⟩⟩
/-- over zip of two lists -/
theorem el_lcZ {a b : Addr} {xs ys : List V} {ta tb : TE} {i j : Nat} {vs : List Nat} (v : Nat → V) (ha : Ev ta σ H (.ref a)) (hb : Ev tb σ H (.ref b)) (hx : H a = some (.lst xs) ∧ H b = some (.lst ys) ∨ H a = some (.tup xs) ∧ H b = some (.tup ys)) (hl : xs.length = ys.length) (hz : xs.length ≤ 40000)
    (hw : ∀ x y, wipe (((wipe σ vs).set i (some x)).set j (some y)) vs = wipe σ vs) (he : ∀ (n : Nat) (x y : V) H1, Ex H H1 → xs[n]? = some x → ys[n]? = some y → Ev te (((wipe σ vs).set i (some x)).set j (some y)) H1 (v n)) :
    EvL (tLc (iZipA K (tCons ta (tCons tb tNil))) (gTup K 2 (gCons (gName i) (gCons (gName j) gNil))) tYes te vs) σ H ((List.range xs.length).map v) := fun H0 e Q q => ha H0 e _ fun H1 e1 => hb H1 (e.trans e1) _ fun H2 e2 => by
  have E := (e.trans e1).trans e2
  have hmin : xs.length = min xs.length ys.length := by omega
  have turn : ∀ (n : Nat) (z : V) (Hn Hn' : Hp) (D : Addr), n < xs.length → Cw H2 (fun _ => true) v D n Hn → YPair (fun i => xs[i]?) (fun i => ys[i]?) n Hn z Hn' →
      gTup K 2 (gCons (gName i) (gCons (gName j) gNil)) z (wipe σ vs) Hn' fun σ2 H2' => wipe σ2 vs = wipe σ vs ∧ tYes σ2 H2' fun b H3 => if b = true then te σ2 H3 fun y H4 => ∃ acc, H4 D = some (.lst acc) ∧ acc.length < sizeLine ∧ Cw H2 (fun _ => true) v D (n + 1) (upd H4 D (.lst (acc ++ [y]))) else Cw H2 (fun _ => true) v D (n + 1) H3 := by
    rintro n z Hn Hn' D hn p ⟨T', x, y, rfl, nT, rfl, hx1, hy1⟩
    refine ⟨T', _, rfl, SqT.of upd_same, rfl, _, _, rfl, _, _, rfl, rfl, hw x y, ?_⟩
    have p' : Cw H2 (fun _ => true) v D n (upd Hn T' (.tup [x, y])) := ⟨p.1, p.2.1.trans (Ex.new nT), by rw [upd_ne (ne_of_none p.2.2 nT)]; exact p.2.2⟩
    exact cw_turn (t := tYes) p' (by omega) (fun H1 _ _ q => q H1 (Ex.refl H1)) fun _ => he n x y H2 E hx1 hy1
  have fin : ∀ D H', Cw H2 (fun _ => true) v D xs.length H' → Q (.ref D) H' := fun D H' p => q D H' (fresh_back (e1.trans e2) p.1) ((e1.trans e2).trans p.2.1) (by
    rw [p.2.2]
    unfold given
    rw [List.filter_eq_self.mpr fun _ _ => rfl])
  refine ⟨a, b, xs, ys, rfl, ?_⟩
  rcases hx with ⟨h1, h2⟩ | ⟨h1, h2⟩
  · refine .inl ⟨sq_of (E _ _ h1), sq_of (E _ _ h2), fun D hD => lc_it (walk_zip hmin) (Cw H2 (fun _ => true) v D) ⟨hD, Ex.new hD, upd_same⟩ (fun n H' _ p => ⟨sq_of ((E.trans p.2.1) _ _ h1), sq_of ((E.trans p.2.1) _ _ h2)⟩) (fun n z Hn Hn' hn p y => turn n z Hn Hn' D hn p y) (fun H' p => fin D H' p)⟩
  · refine .inr ⟨st_of (E _ _ h1), st_of (E _ _ h2), fun D hD => lc_it (walk_zipT hmin) (Cw H2 (fun _ => true) v D) ⟨hD, Ex.new hD, upd_same⟩ (fun n H' _ p => ⟨st_of ((E.trans p.2.1) _ _ h1), st_of ((E.trans p.2.1) _ _ h2)⟩) (fun n z Hn Hn' hn p y => turn n z Hn Hn' D hn p y) (fun H' p => fin D H' p)⟩
theorem ev_lenL {p : Addr} {xs : List V} (ha : Ev te σ H (.ref p)) (h : H p = some (.lst xs)) : Ev (tCB (rLenS K) (tCons te tNil)) σ H (.int (xs.length : Int)) := ev_len ha (sq_of h)
theorem ev_lenT {p : Addr} {xs : List V} (ha : Ev te σ H (.ref p)) (h : H p = some (.tup xs)) : Ev (tCB (rLenS K) (tCons te tNil)) σ H (.int (xs.length : Int)) := ev_cb (ea_cons ha ea_nil) fun H1 e Q q => ⟨p, xs, rfl, .inr (st_of (e _ _ h)), q H1 (Ex.refl _)⟩
theorem ev_isB {x y : Bool} {ta tb : TE} (ha : Ev ta σ H (.bl x)) (hb : Ev tb σ H (.bl y)) : Ev (tOp rIsB ta tb) σ H (.bl (decide (x = y))) := ev_op ha hb fun H1 _ Q q => ⟨x, y, rfl, rfl, q H1 (Ex.refl _)⟩
theorem ev_all {bs : List Bool} (h : EvL te σ H (bs.map V.bl)) : Ev (tCB (rAll K) (tCons te tNil)) σ H (.bl (bs.all id)) := fun H1 e Q q =>
  h H1 e _ fun p H2 _ e2 hp => ⟨p, bs, rfl, sq_of hp, q H2 e2⟩
end
theorem kAny4 {K : PySem.W.Frag} {t : String} {c1 c2 c3 c4 : String} (h1 : kitB t c1 = some false) (h2 : kitB t c2 = some false) (h3 : kitB t c3 = some false) (h4 : kitB t c4 = some false) : PySem.W.kitAny K (.type t) [.type c1, .type c2, .type c3, .type c4] = some false :=
  kitAny_cons (kit_ty h1) (fun _ => kitAny_cons (kit_ty h2) (fun _ => kitAny_cons (kit_ty h3) (fun _ => kitAny_cons (kit_ty h4) (fun _ => rfl) (fun z => nomatch z)) (fun z => nomatch z)) (fun z => nomatch z)) (fun z => nomatch z)
theorem kAny2 {K : PySem.W.Frag} {t : String} {c1 c2 : String} (h1 : kitB t c1 = some false) (h2 : kitB t c2 = some false) : PySem.W.kitAny K (.type t) [.type c1, .type c2] = some false :=
  kitAny_cons (kit_ty h1) (fun _ => kitAny_cons (kit_ty h2) (fun _ => rfl) (fun z => nomatch z)) (fun z => nomatch z)
theorem kAnyL {K : PySem.W.Frag} : PySem.W.kitAny K (.type "list") [.type "list", .type "tuple"] = some true := kitAny_cons (b := true) (kit_ty (by decide +kernel)) (fun z => nomatch z) (fun _ => rfl)
theorem kAnyT {K : PySem.W.Frag} : PySem.W.kitAny K (.type "tuple") [.type "list", .type "tuple"] = some true := kitAny_cons (b := false) (kit_ty (by decide +kernel)) (fun _ => kitAny_cons (b := true) (kit_ty (by decide +kernel)) (fun z => nomatch z) (fun _ => rfl)) (fun z => nomatch z)
theorem pairT2 {c1 c2 : String} : Paired ClsV [V.ty c1, V.ty c2] [Value.type c1, Value.type c2] := .cons (.ty _) (.cons (.ty _) .nil)
theorem pairT4 {c1 c2 c3 c4 : String} : Paired ClsV [V.ty c1, V.ty c2, V.ty c3, V.ty c4] [Value.type c1, Value.type c2, Value.type c3, Value.type c4] := .cons (.ty _) (.cons (.ty _) (.cons (.ty _) (.cons (.ty _) .nil)))
section
variable {P : Program} {w : World} {K : PySem.W.Frag} {mg : Str → Option Value} {base : Heap} {f : Addr} {fd : FuncData}
def spSame (d : Nat) : Sp := fun vs H Q _ => ∃ x y, vs = [x, y] ∧ SameV H d x y ∧ ∀ H', Same H H' → Q (.bl true) H'
abbrev s_same : Stmt := top 22
theorem sc_same : FnScope ["_law_found", "_law_due_here", "_law_a", "_law_b"] ["_law_found", "_law_due_here"] (defScope s_same) := ⟨rfl, rfl, rfl, by decide +kernel, rfl, by decide +kernel, by decide +kernel⟩
theorem ok_same {d : Nat} (F : Fun K "_law_same" "_law_same" s_same f fd) (T : Blt mg) (D_same : DefOk P w K mg base d "_law_same" f fd ["_law_found", "_law_due_here"] (spSame d)) : FnOk P w K mg base CX0 (d + 1) f fd ["_law_found", "_law_due_here"] (spSame (d + 1)) := by
  refine F.ok sc_same (fun vs H Q E h => ?_) (fun cdv A outer s H vs Q E hr h => ?_)
  · obtain ⟨x, y, rfl, _⟩ := h
    rfl
  · obtain ⟨x, y, rfl, hxy, k⟩ := h
    have D_room : Room d _ := hr
    refine ⟨_, (pss_cons (ps_if (pt_val (pe_callB call_isiT (by rfl) T.b_isinstance (by decide +kernel) (pa_cons (pv 1) (pa_cons (pe_tup (pa_cons (pe_bltn (v := .ty "list") (u := .type "list") (by rfl) T.b_list (by decide +kernel) rfl) (pa_cons (pe_bltn (v := .ty "tuple") (u := .type "tuple") (by rfl) T.b_tuple (by decide +kernel) rfl) pa_nil))) pa_nil)))) (pss_cons (ps_if (PW.pt (pw_or (pt_cmpR op_ne (pe_callB call_isi (by rfl) T.b_isinstance (by decide +kernel) (pa_cons (pv 0) (pa_cons (pe_bltn (v := .ty "list") (u := .type "list") (by rfl) T.b_list (by decide +kernel) rfl) pa_nil))) (pe_callB call_isi (by rfl) T.b_isinstance (by decide +kernel) (pa_cons (pv 1) (pa_cons (pe_bltn (v := .ty "list") (u := .type "list") (by rfl) T.b_list (by decide +kernel) rfl) pa_nil))) (nomark _)) (pw_or1 (pt_cmpR op_ne (pe_callB call_isi (by rfl) T.b_isinstance (by decide +kernel) (pa_cons (pv 0) (pa_cons (pe_bltn (v := .ty "tuple") (u := .type "tuple") (by rfl) T.b_tuple (by decide +kernel) rfl) pa_nil))) (pe_callB call_isi (by rfl) T.b_isinstance (by decide +kernel) (pa_cons (pv 1) (pa_cons (pe_bltn (v := .ty "tuple") (u := .type "tuple") (by rfl) T.b_tuple (by decide +kernel) rfl) pa_nil))) (nomark _))))) (pss_one (ps_ret pe_bl)) pss_nil)
        (pss_one (ps_ret (pe_and (pe_cmpR op_eq (pe_callB call_len_seq (by rfl) T.b_len PySem.boot_len (pa_cons (pv 0) pa_nil)) (pe_callB call_len_seq (by rfl) T.b_len PySem.boot_len (pa_cons (pv 1) pa_nil)) (nomark _)) (pe_one (pe_callB (cr_all rfl) (by rfl) T.b_all (by decide +kernel) (by exact (pa_cons (pe_lc (own := [("_law_a", 2), ("_law_b", 3)]) (g := gTup K 2 (gCons (gName 2) (gCons (gName 3) gNil))) (tt := tYes) (te := (tCall (spSame d) [] E0 (tCons (tVar 2) (tCons (tVar 3) tNil)))) rfl sc_same.nd (pi_zipA rfl T.b_zip (pa_cons (pv 0) (pa_cons (pv 1) pa_nil))) (blkOk_by (own := [("_law_a", 2), ("_law_b", 3)]) (by kernel_rfl)) (fun _ _ _ _ _ => (pg_tup rfl (pgs_cons (pg_name (i := 2) sc_same.nd rfl (by first | exact Or.inl rfl | exact Or.inr rfl)) (pgs_cons (pg_name (i := 3) sc_same.nd rfl (by first | exact Or.inl rfl | exact Or.inr rfl)) pgs_nil)))) (fun _ _ _ _ _ => pts_nil) (fun _ _ _ _ _ => by exact (pe_d D_same D_room (pa_cons (pv 2) (pa_cons (pv 3) pa_nil))))) pa_nil)))))))) pss_nil)
        (pss_cons (ps_if (pt_val (pe_callB call_isi (by rfl) T.b_isinstance (by decide +kernel) (pa_cons (pv 1) (pa_cons (pe_bltn (v := .ty "int") (u := .type "int") (by rfl) T.b_int (by decide +kernel) rfl) pa_nil)))) (pss_one (ps_ret (pe_and (pe_callB call_isi (by rfl) T.b_isinstance (by decide +kernel) (pa_cons (pv 0) (pa_cons (pe_bltn (v := .ty "int") (u := .type "int") (by rfl) T.b_int (by decide +kernel) rfl) pa_nil))) (pe_and (pe_cmpR op_eq (pe_callB call_isi (by rfl) T.b_isinstance (by decide +kernel) (pa_cons (pv 0) (pa_cons (pe_bltn (v := .ty "bool") (u := .type "bool") (by rfl) T.b_bool (by decide +kernel) rfl) pa_nil))) (pe_callB call_isi (by rfl) T.b_isinstance (by decide +kernel) (pa_cons (pv 1) (pa_cons (pe_bltn (v := .ty "bool") (u := .type "bool") (by rfl) T.b_bool (by decide +kernel) rfl) pa_nil))) (nomark _)) (pe_one (pe_cmpR (op_or op_eq (op_eqSelf (Nat.lt_of_le_of_lt (Nat.add_le_add_left (by decide) _) hr.units))) (pv 0) (pv 1) (nomark _))))))) pss_nil)
        (pss_one (ps_ret (pe_and (pe_cmpR op_isBl (pe_callB call_isiT (by rfl) T.b_isinstance (by decide +kernel) (pa_cons (pv 0) (pa_cons (pe_tup (pa_cons (pe_bltn (v := .ty "bool") (u := .type "bool") (by rfl) T.b_bool (by decide +kernel) rfl) (pa_cons (pe_bltn (v := .ty "int") (u := .type "int") (by rfl) T.b_int (by decide +kernel) rfl) (pa_cons (pe_bltn (v := .ty "list") (u := .type "list") (by rfl) T.b_list (by decide +kernel) rfl) (pa_cons (pe_bltn (v := .ty "tuple") (u := .type "tuple") (by rfl) T.b_tuple (by decide +kernel) rfl) pa_nil))))) pa_nil))) pe_bl (nomark _)) (pe_one (pe_cmpR (op_or op_eq (op_eqSelf (Nat.lt_of_le_of_lt (Nat.add_le_add_left (by decide) _) hr.units))) (pv 0) (pv 1) (nomark _)))))))), ?_⟩
    have two : ∀ x : V, EvA (tCons (tC (.ty "list")) (tCons (tC (.ty "tuple")) tNil)) [some x, some y, none, none] H [.ty "list", .ty "tuple"] := fun _ => ea_cons ev_c (ea_cons ev_c ea_nil)
    rcases hxy with ⟨i, rfl, rfl⟩ | ⟨i, rfl, rfl⟩ | ⟨i, rfl, rfl⟩ | ⟨rfl, rfl⟩ | ⟨a, b, xs, ys, rfl, rfl, ha, hb, h1, h2, h3⟩ | ⟨a, b, xs, ys, rfl, rfl, ha, hb, h1, h2, h3⟩ | ⟨a, ks, rfl, rfl, ha, hd⟩
    · refine q_when (et_B (ev_isiT (ev_var rfl) (ea_cons ev_c (ea_cons ev_c ea_nil)) (by decide) pairT2 (fun _ _ => .base (.int i)) (kAny2 (by decide +kernel) (by decide +kernel)))) (fun z => nomatch z) fun _ H1 e1 => ?_
      refine q_when (et_B (ev_isi (b := true) (ev_var rfl) (.ty _) (fun _ _ => .base (.int i)) (kit_ty (by decide +kernel)))) (fun _ H2 e2 => ?_) (fun z => nomatch z)
      refine s_ret (ev_is (ev_andV (ev_isi (b := true) (ev_var rfl) (.ty _) (fun _ _ => .base (.int i)) (kit_ty (by decide +kernel))) fun _ => ev_andV (ev_op (ev_isi (b := false) (ev_var rfl) (.ty _) (fun _ _ => .base (.int i)) (kit_ty (by decide +kernel))) (ev_isi (b := false) (ev_var rfl) (.ty _) (fun _ _ => .base (.int i)) (kit_ty (by decide +kernel))) (rv_eq rfl)) fun _ => ev_op (ev_var rfl) (ev_var rfl) (rv_eqD rfl)) ?_) fun H3 e3 => k H3 (Ex.trans e1 (Ex.trans e2 e3))
      simp
    · refine q_when (et_B (ev_isiT (ev_var rfl) (ea_cons ev_c (ea_cons ev_c ea_nil)) (by decide) pairT2 (fun _ _ => .base (.bl i)) (kAny2 (by decide +kernel) (by decide +kernel)))) (fun z => nomatch z) fun _ H1 e1 => ?_
      refine q_when (et_B (ev_isi (b := true) (ev_var rfl) (.ty _) (fun _ _ => .base (.bl i)) (kit_ty (by decide +kernel)))) (fun _ H2 e2 => ?_) (fun z => nomatch z)
      refine s_ret (ev_is (ev_andV (ev_isi (b := true) (ev_var rfl) (.ty _) (fun _ _ => .base (.bl i)) (kit_ty (by decide +kernel))) fun _ => ev_andV (ev_op (ev_isi (b := true) (ev_var rfl) (.ty _) (fun _ _ => .base (.bl i)) (kit_ty (by decide +kernel))) (ev_isi (b := true) (ev_var rfl) (.ty _) (fun _ _ => .base (.bl i)) (kit_ty (by decide +kernel))) (rv_eq rfl)) fun _ => ev_op (ev_var rfl) (ev_var rfl) (rv_eqD rfl)) ?_) fun H3 e3 => k H3 (Ex.trans e1 (Ex.trans e2 e3))
      simp
    · refine q_when (et_B (ev_isiT (ev_var rfl) (ea_cons ev_c (ea_cons ev_c ea_nil)) (by decide) pairT2 (fun _ _ => .base (.str i)) (kAny2 (by decide +kernel) (by decide +kernel)))) (fun z => nomatch z) fun _ H1 e1 => ?_
      refine q_when (et_B (ev_isi (b := false) (ev_var rfl) (.ty _) (fun _ _ => .base (.str i)) (kit_ty (by decide +kernel)))) (fun z => nomatch z) (fun _ H2 e2 => ?_)
      refine s_ret (ev_is (ev_andV (ev_isB (ev_isiT (ev_var rfl) (ea_cons ev_c (ea_cons ev_c (ea_cons ev_c (ea_cons ev_c ea_nil)))) (by decide) pairT4 (fun _ _ => .base (.str i)) (kAny4 (by decide +kernel) (by decide +kernel) (by decide +kernel) (by decide +kernel))) ev_c) fun _ => ev_op (ev_var rfl) (ev_var rfl) (rv_eqD rfl)) ?_) fun H3 e3 => k H3 (Ex.trans e1 (Ex.trans e2 e3))
      simp
    · refine q_when (et_B (ev_isiT (ev_var rfl) (ea_cons ev_c (ea_cons ev_c ea_nil)) (by decide) pairT2 (fun _ _ => .base .non) (kAny2 (by decide +kernel) (by decide +kernel)))) (fun z => nomatch z) fun _ H1 e1 => ?_
      refine q_when (et_B (ev_isi (b := false) (ev_var rfl) (.ty _) (fun _ _ => .base .non) (kit_ty (by decide +kernel)))) (fun z => nomatch z) (fun _ H2 e2 => ?_)
      refine s_ret (ev_is (ev_andV (ev_isB (ev_isiT (ev_var rfl) (ea_cons ev_c (ea_cons ev_c (ea_cons ev_c (ea_cons ev_c ea_nil)))) (by decide) pairT4 (fun _ _ => .base .non) (kAny4 (by decide +kernel) (by decide +kernel) (by decide +kernel) (by decide +kernel))) ev_c) fun _ => ev_op (ev_var rfl) (ev_var rfl) (rv_eqD rfl)) ?_) fun H3 e3 => k H3 (Ex.trans e1 (Ex.trans e2 e3))
      simp
    · refine q_when (et_B (ev_isiT (ev_var rfl) (ea_cons ev_c (ea_cons ev_c ea_nil)) (by decide) pairT2 (fun H1 e => .base (.lst (e _ _ hb))) kAnyL)) (fun _ H1 e1 => ?_) (fun z => nomatch z)
      have ha1 := e1 _ _ ha
      have hb1 := e1 _ _ hb
      refine q_when (b := false) (et_is (et_or (et_test (ev_op (ev_isi (b := true) (ev_var rfl) (.ty _) (fun _ e => .base (.lst (e _ _ ha1))) (kit_ty (by decide +kernel))) (ev_isi (b := true) (ev_var rfl) (.ty _) (fun _ e => .base (.lst (e _ _ hb1))) (kit_ty (by decide +kernel))) (rv_ne rfl))) fun _ => et_test (ev_op (ev_isi (b := false) (ev_var rfl) (.ty _) (fun _ e => .base (.lst (e _ _ ha1))) (kit_ty (by decide +kernel))) (ev_isi (b := false) (ev_var rfl) (.ty _) (fun _ e => .base (.lst (e _ _ hb1))) (kit_ty (by decide +kernel))) (rv_ne rfl))) (by simp)) (fun z => nomatch z) fun _ H2 e2 => ?_
      have ha2 := e2 _ _ ha1
      have hb2 := e2 _ _ hb1
      have lc : EvL (tLc (iZipA K (tCons (tVar 0) (tCons (tVar 1) tNil))) (gTup K 2 (gCons (gName 2) (gCons (gName 3) gNil))) tYes (tCall (spSame d) [] E0 (tCons (tVar 2) (tCons (tVar 3) tNil))) [2, 3]) [some (.ref a), some (.ref b), none, none] H2 ((List.range xs.length).map fun _ => V.bl true) :=
        el_lcZ (fun _ => V.bl true) (ev_var rfl) (ev_var rfl) (.inl ⟨ha2, hb2⟩) h1 h2 (fun _ _ => rfl) fun n x y H3 e3 hx hy => ev_call (ea_cons (ev_var rfl) (ea_cons (ev_var rfl) ea_nil)) fun H4 e4 Q q E => ⟨x, y, rfl, (h3 n x y hx hy).ex (Ex.trans e1 (Ex.trans e2 (Ex.trans e3 e4))), fun H5 s5 => q H5 s5⟩
      have hall := ev_all (K := K) (bs := (List.range xs.length).map fun _ => true) (by rw [List.map_map]; exact lc)
      refine s_ret (ev_is (ev_andV (ev_op (ev_lenL (ev_var rfl) ha2) (ev_lenL (ev_var rfl) hb2) (rv_eq rfl)) fun _ => hall) ?_) fun H3 e3 => k H3 (Ex.trans e1 (Ex.trans e2 e3))
      rw [h1]
      simp
    · refine q_when (et_B (ev_isiT (ev_var rfl) (ea_cons ev_c (ea_cons ev_c ea_nil)) (by decide) pairT2 (fun H1 e => .base (.tup (e _ _ hb))) kAnyT)) (fun _ H1 e1 => ?_) (fun z => nomatch z)
      have ha1 := e1 _ _ ha
      have hb1 := e1 _ _ hb
      refine q_when (b := false) (et_is (et_or (et_test (ev_op (ev_isi (b := false) (ev_var rfl) (.ty _) (fun _ e => .base (.tup (e _ _ ha1))) (kit_ty (by decide +kernel))) (ev_isi (b := false) (ev_var rfl) (.ty _) (fun _ e => .base (.tup (e _ _ hb1))) (kit_ty (by decide +kernel))) (rv_ne rfl))) fun _ => et_test (ev_op (ev_isi (b := true) (ev_var rfl) (.ty _) (fun _ e => .base (.tup (e _ _ ha1))) (kit_ty (by decide +kernel))) (ev_isi (b := true) (ev_var rfl) (.ty _) (fun _ e => .base (.tup (e _ _ hb1))) (kit_ty (by decide +kernel))) (rv_ne rfl))) (by simp)) (fun z => nomatch z) fun _ H2 e2 => ?_
      have ha2 := e2 _ _ ha1
      have hb2 := e2 _ _ hb1
      have lc : EvL (tLc (iZipA K (tCons (tVar 0) (tCons (tVar 1) tNil))) (gTup K 2 (gCons (gName 2) (gCons (gName 3) gNil))) tYes (tCall (spSame d) [] E0 (tCons (tVar 2) (tCons (tVar 3) tNil))) [2, 3]) [some (.ref a), some (.ref b), none, none] H2 ((List.range xs.length).map fun _ => V.bl true) :=
        el_lcZ (fun _ => V.bl true) (ev_var rfl) (ev_var rfl) (.inr ⟨ha2, hb2⟩) h1 h2 (fun _ _ => rfl) fun n x y H3 e3 hx hy => ev_call (ea_cons (ev_var rfl) (ea_cons (ev_var rfl) ea_nil)) fun H4 e4 Q q E => ⟨x, y, rfl, (h3 n x y hx hy).ex (Ex.trans e1 (Ex.trans e2 (Ex.trans e3 e4))), fun H5 s5 => q H5 s5⟩
      have hall := ev_all (K := K) (bs := (List.range xs.length).map fun _ => true) (by rw [List.map_map]; exact lc)
      refine s_ret (ev_is (ev_andV (ev_op (ev_lenT (ev_var rfl) ha2) (ev_lenT (ev_var rfl) hb2) (rv_eq rfl)) fun _ => hall) ?_) fun H3 e3 => k H3 (Ex.trans e1 (Ex.trans e2 e3))
      rw [h1]
      simp
    · refine q_when (et_B (ev_isiT (ev_var rfl) (ea_cons ev_c (ea_cons ev_c ea_nil)) (by decide) pairT2 (fun _ e => .base (.dK (e _ _ ha))) (kAny2 (by decide +kernel) (by decide +kernel)))) (fun z => nomatch z) fun _ H1 e1 => ?_
      refine q_when (et_B (ev_isi (b := false) (ev_var rfl) (.ty _) (fun _ e => .base (.dK (e _ _ (e1 _ _ ha)))) (kit_ty (by decide +kernel)))) (fun z => nomatch z) (fun _ H2 e2 => ?_)
      refine s_ret (ev_is (ev_andV (ev_isB (ev_isiT (ev_var rfl) (ea_cons ev_c (ea_cons ev_c (ea_cons ev_c (ea_cons ev_c ea_nil)))) (by decide) pairT4 (fun _ e => .base (.dK (e _ _ (e2 _ _ (e1 _ _ ha))))) (kAny4 (by decide +kernel) (by decide +kernel) (by decide +kernel) (by decide +kernel))) ev_c) fun _ => ev_op (ev_var rfl) (ev_var rfl) (rv_eqDd (e2 _ _ (e1 _ _ ha)) hd)) ?_) fun H3 e3 => k H3 (Ex.trans e1 (Ex.trans e2 e3))
      simp
end
end Lm

namespace Lm
open PySem L2 Evl RZ
/-! ### things of lists and tuples, told by their shape -/
inductive Sh where
  | v (u : V)
  | l (ss : List Sh)
  | t (ss : List Sh)
/-- flat things -/
def flt (u : V) : Prop := (∃ i, u = .int i) ∨ (∃ b, u = .bl b) ∨ (∃ s, u = .str s) ∨ u = .non
/-- at x stands a thing of the shape s, of depth below d, of objects of B -/
def RepB (H : Hp) (B : Addr → Prop) : Nat → V → Sh → Prop
  | 0 => fun _ _ => False
  | d + 1 => fun x s => match s with
    | .v u => x = u ∧ flt u
    | .l ss => ∃ a xs, x = .ref a ∧ B a ∧ H a = some (.lst xs) ∧ xs.length = ss.length ∧ xs.length ≤ 40000 ∧ ∀ (i : Nat) y s', xs[i]? = some y → ss[i]? = some s' → RepB H B d y s'
    | .t ss => ∃ a xs, x = .ref a ∧ B a ∧ H a = some (.tup xs) ∧ xs.length = ss.length ∧ xs.length ≤ 40000 ∧ ∀ (i : Nat) y s', xs[i]? = some y → ss[i]? = some s' → RepB H B d y s'
abbrev Rep (H : Hp) : Nat → V → Sh → Prop := RepB H fun _ => True
theorem RepB.mono {H H' : Hp} {B B' : Addr → Prop} (e : ∀ a o, B a → H a = some o → (∀ ps, o ≠ .tbl ps) → B' a ∧ H' a = some o) : ∀ {d : Nat} {x : V} {s : Sh}, RepB H B d x s → RepB H' B' d x s
  | 0, _, _, h => h
  | d + 1, x, .v u, h => h
  | d + 1, x, .l ss, ⟨a, xs, h1, hb, h2, h3, h4, h5⟩ => let ⟨q1, q2⟩ := e a _ hb h2 (fun _ z => by cases z); ⟨a, xs, h1, q1, q2, h3, h4, fun i y s' q1 q2 => RepB.mono e (h5 i y s' q1 q2)⟩
  | d + 1, x, .t ss, ⟨a, xs, h1, hb, h2, h3, h4, h5⟩ => let ⟨q1, q2⟩ := e a _ hb h2 (fun _ z => by cases z); ⟨a, xs, h1, q1, q2, h3, h4, fun i y s' q1 q2 => RepB.mono e (h5 i y s' q1 q2)⟩
theorem RepB.ex {H H' : Hp} {B : Addr → Prop} (e : Ex H H') {d : Nat} {x : V} {s : Sh} (h : RepB H B d x s) : RepB H' B d x s := h.mono fun a o b q _ => ⟨b, e _ _ q⟩
theorem Rep.extn {H H' : Hp} (e : LamX.ExtN H H') {d : Nat} {x : V} {s : Sh} (h : Rep H d x s) : Rep H' d x s := RepB.mono (fun a o b q n => ⟨b, e _ _ q n⟩) h
theorem RepB.rep {H : Hp} {B : Addr → Prop} {d : Nat} {x : V} {s : Sh} (h : RepB H B d x s) : Rep H d x s := h.mono fun a o b q _ => ⟨trivial, q⟩
theorem RepB.imp {H : Hp} {B B' : Addr → Prop} (e : ∀ a, B a → H a ≠ none → B' a) {d : Nat} {x : V} {s : Sh} (h : RepB H B d x s) : RepB H B' d x s := h.mono fun a o b q _ => ⟨e a b (by rw [q]; simp), q⟩
theorem Rep.on {H : Hp} {d : Nat} {x : V} {s : Sh} (h : Rep H d x s) : RepB H (fun a => H a ≠ none) d x s := RepB.imp (fun a _ q => q) h
theorem RepB.up {H : Hp} {B : Addr → Prop} : ∀ {d : Nat} {x : V} {s : Sh}, RepB H B d x s → RepB H B (d + 1) x s
  | 0, _, _, h => h.elim
  | d + 1, x, .v u, h => h
  | d + 1, x, .l ss, ⟨a, xs, h1, hb, h2, h3, h4, h5⟩ => ⟨a, xs, h1, hb, h2, h3, h4, fun i y s' q1 q2 => RepB.up (h5 i y s' q1 q2)⟩
  | d + 1, x, .t ss, ⟨a, xs, h1, hb, h2, h3, h4, h5⟩ => ⟨a, xs, h1, hb, h2, h3, h4, fun i y s' q1 q2 => RepB.up (h5 i y s' q1 q2)⟩
theorem flt.same {H : Hp} {d : Nat} {u : V} (h : flt u) : SameV H (d + 1) u u := by
  rcases h with ⟨i, rfl⟩ | ⟨i, rfl⟩ | ⟨i, rfl⟩ | rfl
  · exact .int i
  · exact .bl i
  · exact .str i
  · exact .non
theorem Rep.same {H : Hp} : ∀ {d : Nat} {x y : V} {s : Sh}, Rep H d x s → Rep H d y s → SameV H d x y
  | 0, _, _, _, h, _ => h.elim
  | d + 1, x, y, .v u, ⟨h1, h2⟩, ⟨g1, _⟩ => by
    subst h1 g1
    exact h2.same
  | d + 1, x, y, .l ss, ⟨a, xs, h1, _, h2, h3, h4, h5⟩, ⟨b, ys, g1, _, g2, g3, g4, g5⟩ => by
    subst h1 g1
    exact .lst h2 g2 (h3.trans g3.symm) h4 fun i u v q1 q2 => by
      have hi : i < ss.length := by rw [← h3]; exact (List.getElem?_eq_some_iff.mp q1).1
      exact Rep.same (h5 i u _ q1 (List.getElem?_eq_getElem hi)) (g5 i v _ q2 (List.getElem?_eq_getElem hi))
  | d + 1, x, y, .t ss, ⟨a, xs, h1, _, h2, h3, h4, h5⟩, ⟨b, ys, g1, _, g2, g3, g4, g5⟩ => by
    subst h1 g1
    exact .tup h2 g2 (h3.trans g3.symm) h4 fun i u v q1 q2 => by
      have hi : i < ss.length := by rw [← h3]; exact (List.getElem?_eq_some_iff.mp q1).1
      exact Rep.same (h5 i u _ q1 (List.getElem?_eq_getElem hi)) (g5 i v _ q2 (List.getElem?_eq_getElem hi))
theorem rep_flat {H : Hp} {B : Addr → Prop} {d : Nat} {a : Addr} {xs : List V} (hb : B a) (h : H a = some (.lst xs)) (hl : xs.length ≤ 40000) (hf : ∀ x ∈ xs, flt x) : RepB H B (d + 2) (.ref a) (.l (xs.map .v)) :=
  ⟨a, xs, rfl, hb, h, by simp, hl, fun i y s' q1 q2 => by
    rw [List.getElem?_map, q1] at q2
    cases (Option.some.inj q2)
    exact ⟨rfl, hf y (List.mem_of_getElem? q1)⟩⟩
theorem rep_flatT {H : Hp} {B : Addr → Prop} {d : Nat} {a : Addr} {xs : List V} (hb : B a) (h : H a = some (.tup xs)) (hl : xs.length ≤ 40000) (hf : ∀ x ∈ xs, flt x) : RepB H B (d + 2) (.ref a) (.t (xs.map .v)) :=
  ⟨a, xs, rfl, hb, h, by simp, hl, fun i y s' q1 q2 => by
    rw [List.getElem?_map, q1] at q2
    cases (Option.some.inj q2)
    exact ⟨rfl, hf y (List.mem_of_getElem? q1)⟩⟩
/-- what stood in H, or is new behind H1 -/
def Nb (H H1 : Hp) (a : Addr) : Prop := H a ≠ none ∨ H1 a = none
theorem Nb.back {H H1 H2 : Hp} {a : Addr} (e : Ex H1 H2) (h : Nb H H2 a) : Nb H H1 a := h.imp id (fresh_back e)
/-- a thing of a shape is told -/
def EvS (te : TE) (σ : L2.St) (H : Hp) (d : Nat) (s : Sh) : Prop := ∀ H1, Ex H H1 → ∀ Q : VK, (∀ v H2, Ex H1 H2 → RepB H2 (Nb H H1) d v s → Q v H2) → te σ H1 Q
def RepA (H : Hp) (B : Addr → Prop) (d : Nat) (vs : List V) (ss : List Sh) : Prop := vs.length = ss.length ∧ ∀ (i : Nat) y s', vs[i]? = some y → ss[i]? = some s' → RepB H B d y s'
def EvSA (ta : TA) (σ : L2.St) (H : Hp) (d : Nat) (ss : List Sh) : Prop := ∀ H1, Ex H H1 → ∀ Q : List V → Hp → Prop, (∀ vs H2, Ex H1 H2 → RepA H2 (Nb H H1) d vs ss → Q vs H2) → ta σ H1 Q
section
variable {K : PySem.W.Frag} {σ : L2.St} {H H' : Hp} {te ta tb : TE} {tr : TA} {d : Nat} {s : Sh} {ss : List Sh} {B : Addr → Prop}
theorem EvS.mono (e : Ex H H') (h : EvS te σ H d s) : EvS te σ H' d s := fun H1 a Q q => h H1 (e.trans a) Q fun v H2 e2 r => q v H2 e2 (r.imp fun b hb _ => hb.imp (fun z => by
  cases hh : H b with
  | none => exact absurd hh z
  | some o => rw [e _ _ hh]; simp) id)
theorem es_is {s' : Sh} (h : EvS te σ H d s) (e : s = s') : EvS te σ H d s' := e ▸ h
theorem es_up (h : EvS te σ H d s) : EvS te σ H (d + 1) s := fun H1 e Q q => h H1 e _ fun v H2 e2 r => q v H2 e2 r.up
theorem es_v {u : V} (h : Ev te σ H u) (hf : flt u) : EvS te σ H (d + 1) (.v u) := fun H1 e Q q => h H1 e _ fun H2 e2 => q u H2 e2 ⟨rfl, hf⟩
theorem es_i {i : Int} (h : Ev te σ H (.int i)) : EvS te σ H (d + 1) (.v (.int i)) := es_v h (.inl ⟨i, rfl⟩)
theorem es_b {i : Bool} (h : Ev te σ H (.bl i)) : EvS te σ H (d + 1) (.v (.bl i)) := es_v h (.inr (.inl ⟨i, rfl⟩))
theorem es_s {i : Str} (h : Ev te σ H (.str i)) : EvS te σ H (d + 1) (.v (.str i)) := es_v h (.inr (.inr (.inl ⟨i, rfl⟩)))
theorem es_n (h : Ev te σ H .non) : EvS te σ H (d + 1) (.v .non) := es_v h (.inr (.inr (.inr rfl)))
theorem es_var {i : Nat} {v : V} (h : σ[i]? = some (some v)) (hr : Rep H d v s) : EvS (tVar i) σ H d s := fun H1 e Q q => ⟨v, h, q v H1 (Ex.refl _) (RepB.imp (fun a h _ => .inl h) (RepB.ex e hr.on))⟩
theorem es_nil : EvSA tNil σ H d [] := fun H1 _ _ q => q [] H1 (Ex.refl _) ⟨rfl, fun i y s' h => by simp at h⟩
theorem RepA.cons {v : V} {vs : List V} (h : RepB H B d v s) (hr : RepA H B d vs ss) : RepA H B d (v :: vs) (s :: ss) := ⟨by simp [hr.1], fun i y s' q1 q2 => by
  cases i with
  | zero =>
    cases (Option.some.inj q1)
    cases (Option.some.inj q2)
    exact h
  | succ i => exact hr.2 i y s' q1 q2⟩
theorem RepA.ex {vs : List V} (e : Ex H H') (h : RepA H B d vs ss) : RepA H' B d vs ss := ⟨h.1, fun i y s' q1 q2 => (h.2 i y s' q1 q2).ex e⟩
theorem RepA.imp {B' : Addr → Prop} {vs : List V} (e : ∀ a, B a → B' a) (h : RepA H B d vs ss) : RepA H B' d vs ss := ⟨h.1, fun i y s' q1 q2 => (h.2 i y s' q1 q2).imp fun a b _ => e a b⟩
theorem es_cons (h : EvS ta σ H d s) (hr : EvSA tr σ H d ss) : EvSA (tCons ta tr) σ H d (s :: ss) := fun H1 e Q q => h H1 e _ fun v H2 e2 r2 => hr H2 (Ex.trans e e2) _ fun vs H3 e3 r3 => q (v :: vs) H3 (Ex.trans e2 e3) (.cons (r2.ex e3) (r3.imp fun a b => b.back e2))
theorem es_lst (h : EvSA tr σ H d ss) (hl : ss.length ≤ 40000) : EvS (tLst tr) σ H (d + 1) (.l ss) := fun H1 e Q q => h H1 e _ fun vs H2 e2 r2 => ⟨sz_of (by rw [r2.1]; omega), fun p np => q (.ref p) _ (Ex.trans e2 (Ex.new np)) ⟨p, vs, rfl, .inr (fresh_back e2 np), upd_same, r2.1, by rw [r2.1]; exact hl, (r2.ex (Ex.new np)).2⟩⟩
theorem es_tup (h : EvSA tr σ H d ss) (hl : ss.length ≤ 40000) : EvS (tTup tr) σ H (d + 1) (.t ss) := fun H1 e Q q => h H1 e _ fun vs H2 e2 r2 => ⟨sz_of (by rw [r2.1]; omega), fun p np => q (.ref p) _ (Ex.trans e2 (Ex.new np)) ⟨p, vs, rfl, .inr (fresh_back e2 np), upd_same, r2.1, by rw [r2.1]; exact hl, (r2.ex (Ex.new np)).2⟩⟩
theorem es_ofL {xs : List V} (h : EvL te σ H xs) (hl : xs.length ≤ 40000) (hf : ∀ x ∈ xs, flt x) : EvS te σ H (d + 2) (.l (xs.map .v)) := fun H1 e Q q => h H1 e _ fun p H2 np e2 hp => q (.ref p) H2 e2 (rep_flat (.inr np) hp hl hf)
theorem es_ofU {xs : List V} (h : EvU te σ H xs) (hl : xs.length ≤ 40000) (hf : ∀ x ∈ xs, flt x) : EvS te σ H (d + 2) (.t (xs.map .v)) := fun H1 e Q q => h H1 e _ fun p H2 np e2 hp => q (.ref p) H2 e2 (rep_flatT (.inr np) hp hl hf)
/-- the same shape is the same -/
theorem ev_sameS (h1 : EvS ta σ H d s) (h2 : EvS tb σ H d s) : Ev (tCall (spSame d) [] E0 (tCons ta (tCons tb tNil))) σ H (.bl true) := fun H1 e Q q =>
  h1 H1 e _ fun v H2 e2 r2 => h2 H2 (Ex.trans e e2) _ fun u H3 e3 r3 => ⟨v, u, rfl, Rep.same (RepB.ex e3 r2.rep) r3.rep, fun H4 e4 => q H4 (Ex.trans e2 (Ex.trans e3 e4))⟩
/-- behind i turns of a comprehension -/
def CwS (H H1 : Hp) (d : Nat) (g : Nat → Sh) (D : Addr) (i : Nat) (H' : Hp) : Prop := H D = none ∧ H1 D = none ∧ Ex H1 H' ∧ ∃ vs, H' D = some (.lst vs) ∧ vs.length = i ∧ ∀ (k : Nat) y, vs[k]? = some y → RepB H' (fun a => Nb H H1 a ∧ a ≠ D) d y (g k)
theorem cws_turn {H H1 H' : Hp} {d : Nat} {g : Nat → Sh} {D : Addr} {i : Nat} {σ2 : L2.St} {te : TE} (e : Ex H H1) (p : CwS H H1 d g D i H') (hi : i < 50000) (he : EvS te σ2 H d (g i)) :
    tYes σ2 H' fun b H3 => if b = true then te σ2 H3 fun y H4 => ∃ acc, H4 D = some (.lst acc) ∧ acc.length < sizeLine ∧ CwS H H1 d g D (i + 1) (upd H4 D (.lst (acc ++ [y]))) else CwS H H1 d g D (i + 1) H3 := by
  obtain ⟨p0, p1, p2, vs, p3, p4, p5⟩ := p
  show te σ2 H' _
  refine he H' (Ex.trans e p2) _ fun v H4 e4 r4 => ?_
  have hD4 := e4 _ _ p3
  have up : ∀ {k : Nat} {y : V} {s : Sh}, RepB H4 (fun a => Nb H H1 a ∧ a ≠ D) d y s → RepB (upd H4 D (.lst (vs ++ [v]))) (fun a => Nb H H1 a ∧ a ≠ D) d y s := fun h => h.mono fun a o b q _ => ⟨b, by rw [upd_ne b.2]; exact q⟩
  refine ⟨vs, hD4, sz_lt (by omega), p0, p1, Ex.mut (Ex.trans p2 e4) p1, vs ++ [v], upd_same, by simp [p4], fun k y hy => ?_⟩
  rcases Nat.lt_or_ge k vs.length with hk | hk
  · rw [List.getElem?_append_left hk] at hy
    exact up (k := 0) ((p5 k y hy).ex e4)
  · rw [List.getElem?_append_right hk] at hy
    cases q : k - vs.length with
    | zero =>
      rw [q] at hy
      cases hy
      have : k = i := by omega
      rw [this]
      refine up (k := 0) (r4.imp fun a hb _ => ⟨hb.back p2, fun z => ?_⟩)
      subst z
      rcases hb with hb | hb
      · exact hb p0
      · rw [p3] at hb; cases hb
    | succ m => rw [q] at hy; simp at hy
theorem cws_end {H H1 H' : Hp} {d : Nat} {g : Nat → Sh} {D : Addr} {n : Nat} (p : CwS H H1 d g D n H') (hn : n ≤ 40000) : RepB H' (Nb H H1) (d + 1) (.ref D) (.l ((List.range n).map g)) := by
  obtain ⟨p0, p1, p2, vs, p3, p4, p5⟩ := p
  refine ⟨D, vs, rfl, .inr p1, p3, by simp [p4], by omega, fun i y s' q1 q2 => ?_⟩
  have hi : i < n := by rw [← p4]; exact (List.getElem?_eq_some_iff.mp q1).1
  rw [List.getElem?_map, List.getElem?_range hi] at q2
  cases (Option.some.inj q2)
  exact (p5 i y q1).imp fun a b _ => b.1
/-- [e for k in range(n)] -/
theorem es_lcR {ta : TA} {j n : Nat} {g : Nat → Sh} (h : EvA ta σ H [.int (n : Int)]) (hn : n ≤ 40000) (he : ∀ k < n, EvS te ((wipe σ [j]).set j (some (.int (k : Nat)))) H d (g k)) : EvS (tLc (iRng1 ta) (gName j) tYes te [j]) σ H (d + 1) (.l ((List.range n).map g)) := fun H0 e Q q => h H0 e _ fun H1 e1 => by
  have E1 := Ex.trans e e1
  refine ⟨(n : Int), rfl, by omega, by omega, fun Dl hD => ?_⟩
  refine lc_range (lo := 0) (n := ((n : Int)).toNat) (CwS H H1 d g Dl) ⟨fresh_back E1 hD, hD, Ex.new hD, [], upd_same, rfl, fun k y hy => by simp at hy⟩ (fun i H' hi p => ?_) (fun H' p => ?_)
  · have e0 : (0 : Int) + (i : Int) = (i : Int) := Int.zero_add _
    rw [e0]
    refine ⟨?_, cws_turn E1 p (by omega) (he i (by omega))⟩
    show ((σ.set j none).set j (some (.int (i : Int)))).set j none = σ.set j none
    simp
  · have p' : CwS H H1 d g Dl n H' := by simpa using p
    exact q (.ref Dl) H' (Ex.trans e1 p'.2.2.1) ((cws_end p' hn).imp fun a b _ => b.back e1)
/-- [e for x in l] -/
theorem es_lcL {tl : TE} {j : Nat} {a : Addr} {xs : List V} {g : Nat → Sh} (h : Ev tl σ H (.ref a)) (ha : H a = some (.lst xs)) (hn : xs.length ≤ 40000) (he : ∀ (k : Nat) x, xs[k]? = some x → EvS te ((wipe σ [j]).set j (some x)) H d (g k)) : EvS (tLc (iList K tl) (gName j) tYes te [j]) σ H (d + 1) (.l ((List.range xs.length).map g)) := fun H0 e Q q => h H0 e _ fun H1 e1 => by
  have E1 := Ex.trans e e1
  refine ⟨a, rfl, ⟨xs, sq_of (E1 _ _ ha)⟩, fun Dl hD => ?_⟩
  refine lc_list (xs := xs) (CwS H H1 d g Dl) ⟨fresh_back E1 hD, hD, Ex.new hD, [], upd_same, rfl, fun k y hy => by simp at hy⟩ (fun i H' _ p => sq_of (p.2.2.1 _ _ (E1 _ _ ha))) (fun i x H' hx p => ?_) (fun H' p => ?_)
  · refine ⟨?_, cws_turn E1 p (by have := (List.getElem?_eq_some_iff.mp hx).1; omega) (he i x hx)⟩
    show ((σ.set j none).set j (some x)).set j none = σ.set j none
    simp
  · exact q (.ref Dl) H' (Ex.trans e1 p.2.2.1) ((cws_end p hn).imp fun a b _ => b.back e1)
theorem s_asgS {D : Ends} {i : Nat} (h : EvS te σ H d s) (k : ∀ v H1, Ex H H1 → Rep H1 d v s → D.nx (σ.set i (some v)) H1) : tAsg te (gName i) D σ H := h H (Ex.refl H) _ fun v H1 e r => k v H1 e r.rep
theorem q_asgS {tz : TS} {D : Ends} {i : Nat} (h : EvS te σ H d s) (k : ∀ v H1, Ex H H1 → Rep H1 d v s → tz D (σ.set i (some v)) H1) : tSeq (tAsg te (gName i)) tz D σ H := s_asgS (D := { D with nx := tz D }) h k
end
end Lm

namespace Lm
open PySem L2 Evl RZ
/-! ### objects of any kind; a work that is refused -/
def NoRow (K : PySem.W.Frag) (H : Hp) (x : V) : Prop := ∃ t : Value, (∀ H', Ex H H' → TyX K H' x t) ∧ PySem.W.kitAny K t [.type "list", .type "tuple"] = some false
def NoStr (K : PySem.W.Frag) (H : Hp) (x : V) : Prop := ∃ t : Value, (∀ H', Ex H H' → TyX K H' x t) ∧ PySem.W.kitOne K t (.type "str") = some false
theorem NoRow.ex {K : PySem.W.Frag} {H H' : Hp} {x : V} (e : Ex H H') (h : NoRow K H x) : NoRow K H' x := let ⟨t, h1, h2⟩ := h; ⟨t, fun H2 e2 => h1 H2 (Ex.trans e e2), h2⟩
theorem NoStr.ex {K : PySem.W.Frag} {H H' : Hp} {x : V} (e : Ex H H') (h : NoStr K H x) : NoStr K H' x := let ⟨t, h1, h2⟩ := h; ⟨t, fun H2 e2 => h1 H2 (Ex.trans e e2), h2⟩
/-- x is a word or not -/
def WdV (K : PySem.W.Frag) (H : Hp) (v : V) (b : Bool) : Prop := (∃ s : Str, v = .str s ∧ s.cps.size ≤ 1000 ∧ b = isW s) ∨ (NoStr K H v ∧ b = false)
theorem WdV.ex {K : PySem.W.Frag} {H H' : Hp} {x : V} {b : Bool} (e : Ex H H') (h : WdV K H x b) : WdV K H' x b := h.imp id fun h => ⟨h.1.ex e, h.2⟩
/-- the error of one field is raised -/
def Rs (CB : Addr) (fn : Str) (v : V) (H : Hp) (E : XK) : Prop := ∀ H' d, Same H H' → H' d = none → E (.ref CB) (some d) (upd H' d (.xd [(fn, v)]))
theorem Rs.same {CB : Addr} {fn : Str} {v : V} {H H' : Hp} {E : XK} (k : Rs CB fn v H E) (e : Same H H') : Rs CB fn v H' E := fun H2 d e2 nd => k H2 d (Same.trans e e2) nd
theorem SeqAt.same {H H' : Hp} {a : Addr} {xs : List V} (e : Same H H') (h : SeqAt H a xs) : SeqAt H' a xs := h.imp (fun h => e _ _ h) fun h => e _ _ h
theorem ev_lenQ {K : PySem.W.Frag} {σ : L2.St} {H : Hp} {te : TE} {p : Addr} {xs : List V} (ha : Ev te σ H (.ref p)) (h : SeqAt H p xs) : Ev (tCB (rLenS K) (tCons te tNil)) σ H (.int (xs.length : Int)) := h.elim (fun h => ev_lenL ha h) fun h => ev_lenT ha h
/-- what is kept for an own error's __init__ -/
structure ErrI (P : Program) (w : World) (K : PySem.W.Frag) (mg : Str → Option Value) (base : Heap) (C fI : Addr) (fdI : FuncData) (fn : Str) : Prop where
  ok : FnOk P w K mg base CX0 1 fI fdI ["self", fn] (spErrI C fn)
  bd : Binds K fdI ["self", fn] []
/-- C(x), raised -/
theorem pmk_errF {X : Cx} {x fn : Str} {C fI : Addr} {fdI : FuncData} {e : Expr} {te : TE} {p pos : Pos} (T : ErrF X.K X.mg x C fI fn) (I : ErrI X.prog X.w X.K X.mg X.base C fI fdI fn) (hr : Room 2 X.A) (ha : PA X [e] (tCons te tNil)) (hg : Gl X x := by rfl) (hdb : (x == ("__debug__" : Str)) = false := by decide)
    (hst : starEach [e] X.env = (false, eval e X.env) :: starEach [] X.env := by rfl) (hpl : (backTo pos (starEach [] X.env)).any (·.1) = false := by rfl) : PMk X (.Call (.Name x p) [e] [] pos) (tMkO C (spErrI C fn) [] (tCons te tNil)) :=
  pmk_oex T.T T.ini T.ty I.ok hr I.bd .nil pass0 hg T.g ha hdb hst hpl
theorem FnOk.or' {P : Program} {w : World} {K : PySem.W.Frag} {mg : Str → Option Value} {base : Heap} {CX : CXT} {k : Nat} {f : Addr} {fd : FuncData} {ps : List Str} {sp sp' : Sp} (A : FnOk P w K mg base CX k f fd ps sp) (B : FnOk P w K mg base CX k f fd ps sp') :
    FnOk P w K mg base CX k f fd ps (fun vs H Q E => sp vs H Q E ∨ sp' vs H Q E) :=
  ⟨fun vs H Q E h => h.elim (A.len vs H Q E) (B.len vs H Q E), fun C outer s H args us vs Q E hr he hb hv hs => hs.elim (A.run C outer s H args us vs Q E hr he hb hv) (B.run C outer s H args us vs Q E hr he hb hv)⟩
section
variable {P : Program} {w : World} {K : PySem.W.Frag} {mg : Str → Option Value} {base : Heap} {f : Addr} {fd : FuncData}
def spIsRowA (K : PySem.W.Frag) : Sp := fun vs H Q _ => ∃ x, vs = [x] ∧ ((∃ a xs, x = .ref a ∧ SeqAt H a xs ∧ ∀ H', Same H H' → Q (.bl true) H') ∨ (NoRow K H x ∧ ∀ H', Same H H' → Q (.bl false) H'))
theorem ok_is_rowA (F : L2.Fun K "is_row" "is_row" s_is_row f fd) (T : Blt mg) : FnOk P w K mg base CX0 1 f fd ["x"] (spIsRowA K) := by
  refine F.ok sc_is_row (fun vs H Q E h => ?_) (fun cdv A outer s H vs Q E hr h => ?_)
  · obtain ⟨x, rfl, _⟩ := h
    rfl
  · obtain ⟨x, rfl, k⟩ := h
    refine ⟨_, (pss_one (ps_ret (pe_callB call_isiT (by rfl) T.b_isinstance (by decide +kernel) (pa_cons (pv 0) (pa_cons (pe_tup (pa_cons (pe_bltn (v := .ty "list") (u := .type "list") (by rfl) T.b_list (by decide +kernel) rfl) (pa_cons (pe_bltn (v := .ty "tuple") (u := .type "tuple") (by rfl) T.b_tuple (by decide +kernel) rfl) pa_nil))) pa_nil))))), ?_⟩
    refine ⟨_, rfl, by show 2 ≤ sizeLine; decide, fun p np => ?_⟩
    rcases k with ⟨a, xs, rfl, hq, k⟩ | ⟨⟨t, ty, hk⟩, k⟩
    · rcases hq with hq | hq
      · exact ⟨_, _, _, _, _, true, rfl, upd_same, .cons (.ty _) (.cons (.ty _) .nil), .base (.lst (by rw [upd_ne (ne_of_none hq np)]; exact hq)), kitAny_cons (b := true) (kit_ty (by decide +kernel)) (fun z => nomatch z) (fun _ => rfl), k _ (Same.upd' np)⟩
      · exact ⟨_, _, _, _, _, true, rfl, upd_same, .cons (.ty _) (.cons (.ty _) .nil), .base (.tup (by rw [upd_ne (ne_of_none hq np)]; exact hq)), kitAny_cons (b := false) (kit_ty (by decide +kernel)) (fun _ => kitAny_cons (b := true) (kit_ty (by decide +kernel)) (fun z => nomatch z) (fun _ => rfl)) (fun z => nomatch z), k _ (Same.upd' np)⟩
    · exact ⟨_, _, _, _, _, false, rfl, upd_same, .cons (.ty _) (.cons (.ty _) .nil), ty _ (Same.upd' np), hk, k _ (Same.upd' np)⟩
def spIsWordA (K : PySem.W.Frag) : Sp := fun vs H Q _ => ∃ (x : V) (b : Bool), vs = [x] ∧ WdV K H x b ∧ ∀ H', Same H H' → Q (.bl b) H'
theorem ok_is_wordA (F : L2.Fun K "is_word" "is_word" s_is_word f fd) (T : Blt mg) {tL tW : Tok} (T' : Cst mg tL tW) : FnOk P w K mg base CX0 1 f fd ["x"] (spIsWordA K) := by
  refine (Lm.FnOk.or' (ok_is_word F T T') (sp' := fun vs H Q _ => ∃ x : V, vs = [x] ∧ NoStr K H x ∧ ∀ H', Same H H' → Q (.bl false) H') ?_).imp fun vs H Q E ⟨x, b, e, h, k⟩ => ?_
  · refine F.ok sc_is_word (fun vs H Q E h => ?_) (fun cdv A outer s H vs Q E hr h => ?_)
    · obtain ⟨x, rfl, _⟩ := h
      rfl
    · obtain ⟨x, rfl, ⟨t, ty, hk⟩, k⟩ := h
      refine ⟨_, (pss_cons (ps_if (pt_not (pt_val (pe_callB call_isi (by rfl) T.b_isinstance (by decide +kernel) (pa_cons (pv 0) (pa_cons (pe_bltn (v := .ty "str") (u := .type "str") (by rfl) T.b_str (by decide +kernel) rfl) pa_nil))))) (pss_one (ps_ret pe_bl)) pss_nil)
        (pss_one (ps_ret (pe_and (pe_chain op_le op_le pe_int (pe_callB call_len_str (by rfl) T.b_len PySem.boot_len (pa_cons (pv 0) pa_nil)) (pe_glob (v := c_LONGEST_WORD) rfl T'.g_LONGEST_WORD ⟨_, rfl⟩)) (pe_one (pe_callB (cr_all rfl) (by rfl) T.b_all (by decide +kernel) (by exact (pa_cons (pe_lc (own := [("sign", 1)]) (g := gName 1) (tt := tYes)/- R cmp -/ rfl sc_is_word.nd (pi_str (pv 0)) (blkOk_by (own := [("sign", 1)]) (by kernel_rfl)) (fun _ _ _ _ _ => (pg_name (i := 1) sc_is_word.nd rfl (by first | exact Or.inl rfl | exact Or.inr rfl))) (fun _ _ _ _ _ => pts_nil) (fun _ _ _ _ _ => by exact (pe_cmpR op_in_sign (pv 1) (pe_glob (v := c_LETTERS) rfl T'.g_LETTERS ⟨_, rfl⟩) rfl))) pa_nil)))))))), ?_⟩
      exact q_when (et_not (et_B (ev_isi (b := false) (ev_var rfl) (.ty _) ty hk))) (fun _ H1 e1 => s_ret ev_c fun H2 e2 => k H2 (Ex.trans e1 e2)) (fun z => nomatch z)
  · rcases h with ⟨s, rfl, h1, rfl⟩ | ⟨h1, rfl⟩
    · exact .inl ⟨s, e, h1, k⟩
    · exact .inr ⟨x, e, h1, k⟩
end
end Lm

namespace Lm
open PySem L2 Evl RZ
theorem wipe1 (σ : L2.St) (j : Nat) (x : V) : wipe ((wipe σ [j]).set j (some x)) [j] = wipe σ [j] := by
  show ((σ.set j none).set j (some x)).set j none = σ.set j none
  simp
theorem given_true (n : Nat) (v : Nat → V) : given n (fun _ => true) v = (List.range n).map v := by
  unfold given
  rw [List.filter_eq_self.mpr fun _ _ => rfl]
theorem range_mapD {α β : Type} (l : List α) (g : α → β) (d : β) : (List.range l.length).map (fun i => (l.map g).getD i d) = l.map g := by
  refine List.ext_getElem? fun i => ?_
  rw [List.getElem?_map, List.getElem?_map]
  rcases Nat.lt_or_ge i l.length with h | h
  · rw [List.getElem?_range h, List.getElem?_eq_getElem h]
    simp [List.getD_eq_getElem?_getD, List.getElem?_eq_getElem h]
  · rw [List.getElem?_eq_none (by simpa using h), List.getElem?_eq_none h]
    rfl
theorem getD_of {α β : Type} {l : List α} {g : α → β} {d : β} {i : Nat} {x : α} (h : l[i]? = some x) : (l.map g).getD i d = g x := by
  rw [List.getD_eq_getElem?_getD, List.getElem?_map, h]
  rfl
theorem et_yes {σ : L2.St} {H : Hp} : EvT tYes σ H true := fun H1 _ _ q => q H1 (Ex.refl H1)
section
variable {K : PySem.W.Frag} {σ : L2.St} {H : Hp} {ta tb te : TE}
theorem map_inv {α : Type} {l : List α} {f : α → V} {i : Nat} {v : V} (h : (l.map f)[i]? = some v) : ∃ x, l[i]? = some x ∧ v = f x := by
  rw [List.getElem?_map] at h
  cases e : l[i]? with
  | none => rw [e] at h; cases h
  | some a => rw [e] at h; exact ⟨a, rfl, (Option.some.inj h).symm⟩
/-- [e for x in l], l a list -/
theorem el_mapL {α : Type} {l : List α} {f g : α → V} {tl : TE} {j : Nat} {a : Addr} (h : Ev tl σ H (.ref a)) (ha : H a = some (.lst (l.map f))) (hz : l.length ≤ 40000) (he : ∀ x ∈ l, ∀ H1, Ex H H1 → Ev te ((wipe σ [j]).set j (some (f x))) H1 (g x)) :
    EvL (tLc (iList K tl) (gName j) tYes te [j]) σ H (l.map g) := by
  have := el_lcL (K := K) (σ := σ) (H := H) (tl := tl) (t := tYes) (te := te) (vs := [j]) (j := j) (fun _ => true) (fun i => (l.map g).getD i .non) h (sq_of ha) (by rw [List.length_map]; exact hz) (fun v => wipe1 _ j v) (fun _ _ _ _ _ => et_yes) fun i v H1 e1 hv _ => by
    obtain ⟨x, hx, rfl⟩ := map_inv hv
    rw [getD_of hx]
    exact he x (List.mem_of_getElem? hx) H1 e1
  rw [given_true, List.length_map, range_mapD] at this
  exact this
/-- … a new list -/
theorem el_mapN {α : Type} {l : List α} {f g : α → V} {tl : TE} {j : Nat} (h : EvL tl σ H (l.map f)) (hz : l.length ≤ 40000) (he : ∀ x ∈ l, ∀ H1, Ex H H1 → Ev te ((wipe σ [j]).set j (some (f x))) H1 (g x)) :
    EvL (tLc (iList K tl) (gName j) tYes te [j]) σ H (l.map g) := by
  have := el_lcNL (K := K) (σ := σ) (H := H) (tl := tl) (t := tYes) (te := te) (vs := [j]) (j := j) (fun _ => true) (fun i => (l.map g).getD i .non) h (by rw [List.length_map]; exact hz) (fun v => wipe1 _ j v) (fun _ _ _ _ _ => et_yes) fun i v H1 e1 hv _ => by
    obtain ⟨x, hx, rfl⟩ := map_inv hv
    rw [getD_of hx]
    exact he x (List.mem_of_getElem? hx) H1 e1
  rw [given_true, List.length_map, range_mapD] at this
  exact this
/-- … a tuple -/
theorem el_mapT {α : Type} {l : List α} {f g : α → V} {tl : TE} {j : Nat} {a : Addr} (h : Ev tl σ H (.ref a)) (ha : H a = some (.tup (l.map f))) (hz : l.length ≤ 40000) (he : ∀ x ∈ l, ∀ H1, Ex H H1 → Ev te ((wipe σ [j]).set j (some (f x))) H1 (g x)) :
    EvL (tLc (iTup K tl) (gName j) tYes te [j]) σ H (l.map g) := fun H0 e Q q => h H0 e _ fun H1 e1 => ⟨a, rfl, ⟨_, st_of ((Ex.trans e e1) _ _ ha)⟩, fun Dl hD => by
  refine lc_tup (K := K) (a := a) (xs := l.map f) (Cw H1 (fun _ => true) (fun i => (l.map g).getD i .non) Dl) ⟨hD, Ex.new hD, upd_same⟩ (fun i H' _ p => st_of (Ex.trans (Ex.trans e e1) p.2.1 _ _ ha)) (fun i v H' hv p => ⟨wipe1 _ j v, ?_⟩) (fun H' p => ?_)
  · obtain ⟨x, hx, rfl⟩ := map_inv hv
    refine cw_turn p (by have := (List.getElem?_eq_some_iff.mp hx).1; omega) et_yes fun _ => ?_
    rw [getD_of hx]
    exact he x (List.mem_of_getElem? hx) H1 (Ex.trans e e1)
  · have p3 := p.2.2
    rw [given_true, List.length_map, range_mapD] at p3
    exact q Dl H' (fresh_back e1 p.1) (Ex.trans e1 p.2.1) p3⟩
/-- [e for k in range(n)] -/
theorem el_mapR {ta : TA} {j : Nat} {n : Nat} {g : Nat → V} (h : EvA ta σ H [.int (n : Int)]) (hn : n ≤ 40000) (he : ∀ k < n, ∀ H1, Ex H H1 → Ev te ((wipe σ [j]).set j (some (.int (k : Nat)))) H1 (g k)) :
    EvL (tLc (iRng1 ta) (gName j) tYes te [j]) σ H ((List.range n).map g) := by
  have := el_lcR1 (σ := σ) (H := H) (ta := ta) (t := tYes) (te := te) (vs := [j]) (j := j) (n := (n : Int)) (fun _ => true) g h ⟨by omega, by omega⟩ (fun v => wipe1 _ j v) (fun _ _ _ _ => et_yes) fun i H1 e1 hi _ => he i (by omega) H1 e1
  rw [given_true] at this
  exact this
end
end Lm

namespace Lm
open PySem L2 Evl RZ
/-! ### fields of rules -/
def cols : List (List Str) := [["no", "last", "raise", "row"], ["no", "last", "raise", "lower"], ["no", "least"], ["no", "last", "raise", "later"], ["no", "last", "raise", "later"], ["exact", "floored"]]
structure FldOk (nm : Str) (r : List Str) : Prop where
  wd : isW nm = true
  len : r.length = 6
  ok : ∀ (i : Nat) w c, r[i]? = some w → cols[i]? = some c → w ∈ c
/-- the written columns -/
structure ColsAt (K : PySem.W.Frag) (C0 : Addr) : Prop where
  ex : ∃ ps : List (Addr × Str × Addr), ps.length = 6 ∧ (∀ H, SqT K H C0 (ps.map fun z => V.ref z.1)) ∧ ∀ (i : Nat) z, ps[i]? = some z → (∀ H, SqT K H z.1 [.str z.2.1, .ref z.2.2]) ∧ ∃ c, cols[i]? = some c ∧ ∀ H, SqT K H z.2.2 (c.map V.str)
structure RlCst (mg : Str → Option Value) (C0 W0 : Addr) (tM : Tok) : Prop where
  g_MOST_FIELDS : mg "MOST_FIELDS" = some (.int 3 tM)
  g_COLUMNS : mg "COLUMNS" = some (.ref C0)
  g_WAYS : mg "WAYS" = some (.ref W0)
abbrev c_MOST_FIELDS : V := .int 3
theorem walk_zipN {K : PySem.W.Frag} {a b : Addr} {xs ys : List V} {n : Nat} (hn : n = min xs.length ys.length) : Walk (ItzN K a b) n (fun H => SqT K H a xs ∧ SqL K H b ys) (YPair (fun i => xs[i]?) (fun i => ys[i]?)) := by
  subst hn
  refine ⟨fun i _ hi q => ?_, fun _ q => ⟨xs, ys, q.1, q.2, by omega, by omega, by omega⟩, fun i H v H' _ q y => ?_⟩
  · have h1 : i < xs.length := by omega
    have h2 : i < ys.length := by omega
    exact ⟨xs, ys, xs[i], ys[i], q.1, q.2, by simp [h1], by simp [h2]⟩
  · obtain ⟨T, x, z, h1, h2, h3, h4, h5⟩ := y
    exact ⟨T, x, z, h1, h2, h3, h4 xs q.1, h5 ys q.2⟩
theorem strs_flat1 (l : List Str) : (l.map V.str).all flatV = true := by
  rw [List.all_eq_true]
  intro x hx
  obtain ⟨n, _, rfl⟩ := List.mem_map.mp hx
  rfl
theorem strs_in1 (l : List Str) (x : Str) : inV (.str x) (l.map V.str) = decide (x ∈ l) := by
  unfold inV
  induction l with
  | nil => rfl
  | cons a r ih =>
    rw [List.map_cons, List.any_cons, ih]
    show ((a == x) || decide (x ∈ r)) = decide (x ∈ a :: r)
    by_cases h : a = x
    · subst h; simp
    · have h3 : ¬ x = a := fun z => h z.symm
      simp [h, h3]
theorem rv_ixQ1 {K : PySem.W.Frag} {H : Hp} {p : Addr} {xs : List V} {n : Nat} {v : V} (h : SeqAt H p xs) (hx : xs[n]? = some v) : RV (rIx K) (.ref p) (.int (n : Nat)) H v := fun H1 e Q q => by
  rcases h with h | h
  · exact .inl ⟨p, xs, (n : Int), v, rfl, rfl, SqL.of (e _ _ h), atI_nat hx, q H1 (Ex.refl _)⟩
  · exact .inr (.inl ⟨p, xs, (n : Int), v, rfl, rfl, SqT.of (e _ _ h), atI_nat hx, q H1 (Ex.refl _)⟩)
theorem ev_lenQ1 {K : PySem.W.Frag} {σ : L2.St} {H : Hp} {te : TE} {p : Addr} {xs : List V} (ha : Ev te σ H (.ref p)) (h : SeqAt H p xs) : Ev (tCB (rLenS K) (tCons te tNil)) σ H (.int (xs.length : Int)) := h.elim (fun h => ev_lenL ha h) fun h => ev_lenT ha h
theorem isW_sz {x : Str} (h : isW x = true) : x.cps.size ≤ 1000 := by
  unfold isW at h
  simp at h
  omega
theorem map_inv1 {α : Type} {f : α → V} {l : List α} {i : Nat} {v : V} (h : (l.map f)[i]? = some v) : ∃ x, l[i]? = some x ∧ v = f x := by
  rw [List.getElem?_map] at h
  cases hi : l[i]? with
  | none => rw [hi] at h; cases h
  | some x => rw [hi] at h; cases h; exact ⟨x, rfl, rfl⟩
theorem sIx1 (x : V) (xs : List V) : HT.sIx (x :: xs).length 0 (some 1) = 1 := by
  show _ = _
  unfold HT.sIx
  simp
theorem cut1 (x : V) (xs : List V) : cutV (x :: xs) (some 1) none = xs := by
  unfold cutV
  have h1 : HT.sIx (x :: xs).length 0 (some 1) = 1 := by
    show _ = _
    unfold HT.sIx
    simp
  have h2 : HT.sIx (x :: xs).length (x :: xs).length none = (x :: xs).length := rfl
  rw [h1, h2]
  simp
section
variable {P : Program} {w : World} {K : PySem.W.Frag} {mg : Str → Option Value} {base : Heap} {f : Addr} {fd : FuncData}
/-- a good field behind good ones -/
def spWrongNo : Sp := fun vs H Q _ => ∃ (a l : Addr) (nm : Str) (r names : List Str), vs = [.ref a, .ref l] ∧ SeqAt H a ((nm :: r).map V.str) ∧ FldOk nm r ∧ H l = some (.lst (names.map V.str)) ∧ names.length < 3 ∧ nm ∉ names ∧ ∀ H', Same H H' → Q .non H'
abbrev s_wrong_with : Stmt := top 15
theorem sc_wrong_with : FnScope ["field", "names", "column", "words", "word"] ["field", "names"] (defScope s_wrong_with) := ⟨rfl, rfl, rfl, by decide +kernel, rfl, by decide +kernel, by decide +kernel⟩
theorem ok_wrong_no {C0 W0 fR fI : Addr} {fdR fdI : FuncData} {tM : Tok} (F : L2.Fun K "wrong_with" "wrong_with" s_wrong_with f fd) (T : Blt mg) (T' : RlCst mg C0 W0 tM) (CC : ColsAt K C0) (D_is_row : DefOk P w K mg base 1 "is_row" fR fdR ["x"] spIsRow) (D_is_word : DefOk P w K mg base 1 "is_word" fI fdI ["x"] spIsWord) :
    FnOk P w K mg base CX0 2 f fd ["field", "names"] spWrongNo := by
  refine F.ok sc_wrong_with (fun vs H Q E h => ?_) (fun cdv A outer s H vs Q E hr h => ?_)
  · obtain ⟨a, l, nm, r, names, rfl, _⟩ := h
    rfl
  · obtain ⟨a, l, nm, r, names, rfl, ha, hf, hl, hn, hnn, k⟩ := h
    obtain ⟨ps, lps, hC, hps⟩ := CC.ex
    refine ⟨_, (pss_cons (ps_if (PW.pt (pw_or (pt_cmpR op_eq (pe_callB call_len_seq (by rfl) T.b_len PySem.boot_len (pa_cons (pv 1) pa_nil)) (pe_glob (v := c_MOST_FIELDS) rfl T'.g_MOST_FIELDS ⟨_, rfl⟩) (nomark _)) (pw_or (pt_not (pt_val (pe_d D_is_row (hr.mono (by decide)) (pa_cons (pv 0) pa_nil)))) (pw_or1 (pt_cmpR op_ne (pe_callB call_len_seq (by rfl) T.b_len PySem.boot_len (pa_cons (pv 0) pa_nil)) (pe_op op_add pe_int (pe_callB call_len_seq (by rfl) T.b_len PySem.boot_len (pa_cons (pe_glob (v := .ref C0) rfl T'.g_COLUMNS rfl) pa_nil))) (nomark _)))))) (pss_one (ps_ret pe_str)) pss_nil)
        (pss_cons (ps_if (PW.pt (pw_or (pt_not (pt_val (pe_d D_is_word (hr.mono (by decide)) (pa_cons (pe_ix ix_seq (pv 0) pe_int (fun _ _ => rfl)) pa_nil)))) (pw_or1 (pt_cmpR op_in_seq (pe_ix ix_seq (pv 0) pe_int (fun _ _ => rfl)) (pv 1) (by rfl))))) (pss_one (ps_ret pe_str)) pss_nil)
        (pss_cons (ps_for PassesOwn.never rfl (pi_or (pi_zipN rfl T.b_zip (pa_cons (pe_glob (v := .ref C0) rfl T'.g_COLUMNS rfl) (pa_cons (pe_slice (SlR.or sl_list sl_tup) (pv 0) (po_some pe_int) po_none) pa_nil))) (pi_zipA rfl T.b_zip (pa_cons (pe_glob (v := .ref C0) rfl T'.g_COLUMNS rfl) (pa_cons (pe_slice (SlR.or sl_list sl_tup) (pv 0) (po_some pe_int) po_none) pa_nil)))) (pg_tup rfl (pgs_cons (pg_tup rfl (pgs_cons (pg_name (i := 2) sc_wrong_with.nd rfl (by first | exact Or.inl rfl | exact Or.inr rfl)) (pgs_cons (pg_name (i := 3) sc_wrong_with.nd rfl (by first | exact Or.inl rfl | exact Or.inr rfl)) pgs_nil))) (pgs_cons (pg_name (i := 4) sc_wrong_with.nd rfl (by first | exact Or.inl rfl | exact Or.inr rfl)) pgs_nil))) (pss_one (ps_if (pt_cmpR op_notIn_seq (pv 4) (pv 3) (by rfl)) (pss_one (ps_ret (pv 2))) pss_nil)))
        (pss_one (ps_ret pe_non))))), ?_⟩
    have eC : ∀ {σ : L2.St} {H1 : Hp}, Ev (tCB (rLenS K) (tCons (tC (.ref C0)) tNil)) σ H1 (.int 6) := fun {σ H1} H2 e2 Q q => ⟨C0, _, rfl, .inr (hC H2), by rw [List.length_map, lps]; exact q H2 (Ex.refl _)⟩
    have isr : Ev (tCall spIsRow [] E0 (tCons (tVar 0) tNil)) [some (.ref a), some (.ref l), none, none, none] H (.bl true) := fun H1 e1 Q q => ⟨_, rfl, a, _, rfl, ha.elim (fun h => .inl (e1 _ _ h)) (fun h => .inr (e1 _ _ h)), fun H2 e2 => q H2 e2⟩
    have lr : ((nm :: r).map V.str).length = 7 := by simp [hf.len]
    refine q_when (b := false) (et_is (et_or (et_test (ev_op (ev_lenL (ev_var rfl) hl) ev_c (rv_eq rfl))) fun _ => et_or (et_not (et_B isr)) fun _ => et_test (ev_op (ev_lenQ1 (ev_var rfl) ha) (ev_op ev_c eC rv_I0) (rv_ne rfl))) ?_) (fun z => nomatch z) fun _ H1 e1 => ?_
    · rw [lr, List.length_map]
      have : ¬ V.int (names.length : Int) = V.int 3 := fun z => by have := V.int.inj z; omega
      simp [this]
    have ha1 : SeqAt H1 a ((nm :: r).map V.str) := ha.elim (fun h => .inl (e1 _ _ h)) fun h => .inr (e1 _ _ h)
    have hl1 := e1 _ _ hl
    have e0 : ∀ {H2 : Hp} {σ : L2.St}, Ex H1 H2 → σ[0]? = some (some (.ref a)) → Ev (tOp (rIx K) (tVar 0) (tC (.int 0))) σ H2 (.str nm) := fun e2 h0 => ev_op (ev_var h0) ev_c (rv_ixQ1 (n := 0) (ha1.elim (fun h => .inl (e2 _ _ h)) fun h => .inr (e2 _ _ h)) rfl)
    have isw : Ev (tCall spIsWord [] E0 (tCons (tOp (rIx K) (tVar 0) (tC (.int 0))) tNil)) [some (.ref a), some (.ref l), none, none, none] H1 (.bl (isW nm)) := fun H2 e2 Q q => e0 e2 rfl H2 (Ex.refl _) _ fun H3 e3 => ⟨nm, rfl, isW_sz hf.wd, fun H4 e4 => q H4 (Ex.trans e3 e4)⟩
    refine q_when (b := false) (et_is (et_or (et_not (et_B isw)) fun _ => et_test (ev_op (e0 (Ex.refl _) rfl) (ev_var rfl) (rv_isL (sq_of hl1) rfl (strs_flat1 _)))) ?_) (fun z => nomatch z) fun _ H2 e2 => ?_
    · rw [hf.wd, strs_in1, decide_eq_false hnn]
      rfl
    have turn : ∀ (Hb : Hp) (i : Nat) (σ' : L2.St) (H3 H4 : Hp) (x : V) (D : Ends), i < 6 → (∃ u2 u3 u4 : Option V, σ' = [some (.ref a), some (.ref l), u2, u3, u4] ∧ Same Hb H3) → YPair (fun i => (ps.map fun z => V.ref z.1)[i]?) (fun i => (r.map V.str)[i]?) i H3 x H4 →
        gTup K 2 (gCons (gTup K 2 (gCons (gName 2) (gCons (gName 3) gNil))) (gCons (gName 4) gNil)) x σ' H4 fun σ2 H2 => tIfS (tTest (tOp (rIn K true) (tVar 4) (tVar 3))) (tRet (tVar 2)) tNext { D with nx := fun σ' H' => ∃ u2 u3 u4 : Option V, σ' = [some (.ref a), some (.ref l), u2, u3, u4] ∧ Same Hb H' } σ2 H2 := by
      rintro Hb i σ' H3 H4 x D hi ⟨u2, u3, u4, rfl, e⟩ ⟨tpa, x1, x2, rfl, nT, rfl, hx1, hx2⟩
      obtain ⟨z, hz, rfl⟩ := map_inv1 hx1
      obtain ⟨wd, hwd, rfl⟩ := map_inv1 hx2
      obtain ⟨hz1, c, hc, hz2⟩ := hps i z hz
      have hw := hf.ok i wd c hwd hc
      have eT := Same.upd' nT (o := .tup [.ref z.1, .str wd])
      refine ⟨tpa, _, rfl, SqT.of upd_same, rfl, _, _, rfl, ⟨z.1, _, rfl, hz1 _, rfl, _, _, rfl, _, _, rfl, rfl, _, _, rfl, rfl, ?_⟩⟩
      dsimp only [List.set]
      refine s_when (b := false) (et_test (b := false) fun H5 e5 Q q => ⟨_, rfl, _, rfl, z.2.2, c.map V.str, rfl, .inr (hz2 _), rfl, strs_flat1 _, ?_⟩) (fun z => nomatch z) fun _ H5 e5 => ⟨_, _, _, rfl, Same.trans (Same.trans e eT) e5⟩
      show Q (.bl (!inV (.str wd) (c.map V.str))) H5
      rw [strs_in1, decide_eq_true hw]
      exact q H5 (Ex.refl _)
    have e02 := Same.trans e1 e2
    have lm : min (ps.map fun z => V.ref z.1).length (r.map V.str).length = 6 := by rw [List.length_map, List.length_map, lps, hf.len]; rfl
    have fin : ∀ (Hb : Hp), Same H2 Hb → ∀ σ' H', (∃ u2 u3 u4 : Option V, σ' = [some (.ref a), some (.ref l), u2, u3, u4] ∧ Same Hb H') → tRet (tC .non) { nx := fun _ H' => Q .non H', rt := Q } σ' H' := fun Hb eb σ' H' ⟨u2, u3, u4, _, e⟩ => s_ret ev_c fun H5 e5 => k H5 (Same.trans e02 (Same.trans eb (Same.trans e e5)))
    have ha2 : SeqAt H2 a ((nm :: r).map V.str) := ha1.elim (fun h => .inl (e2 _ _ h)) fun h => .inr (e2 _ _ h)
    rcases ha2 with h | h
    · refine .inl ⟨_, rfl, (1 : Int), rfl, .inl ⟨a, _, rfl, SqL.of h, fun p np => ?_⟩⟩
      rw [List.map_cons, cut1]
      exact ⟨C0, p, _, _, rfl, hC _, SqL.of upd_same, for_it (walk_zipN rfl) (fun i σ' H' => ∃ u2 u3 u4 : Option V, σ' = [some (.ref a), some (.ref l), u2, u3, u4] ∧ Same (upd H2 p (.lst (r.map V.str))) H') ⟨_, _, _, rfl, Same.refl _⟩ (fun i σ' H' _ ⟨_, _, _, _, e⟩ => ⟨hC _, SqL.of (e _ _ upd_same)⟩) (fun i x σ' H3 H4 hi p y => turn _ i σ' H3 H4 x _ (by rw [lm] at hi; exact hi) p y) (fun σ' H' p => fin _ (Same.upd' np) σ' H' p)⟩
    · refine .inr ⟨_, rfl, (1 : Int), rfl, .inr ⟨a, _, rfl, SqT.of h, ?_, fun p np => ?_⟩⟩
      · rintro ⟨h1, _⟩
        rw [List.map_cons, sIx1] at h1
        cases h1
      · rw [List.map_cons, cut1]
        exact ⟨C0, p, _, _, rfl, .inr ⟨hC _, SqT.of upd_same, for_it (walk_zipT rfl) (fun i σ' H' => ∃ u2 u3 u4 : Option V, σ' = [some (.ref a), some (.ref l), u2, u3, u4] ∧ Same (upd H2 p (.tup (r.map V.str))) H') ⟨_, _, _, rfl, Same.refl _⟩ (fun i σ' H' _ ⟨_, _, _, _, e⟩ => ⟨hC _, SqT.of (e _ _ upd_same)⟩) (fun i x σ' H3 H4 hi p y => turn _ i σ' H3 H4 x _ (by rw [lm] at hi; exact hi) p y) (fun σ' H' p => fin _ (Same.upd' np) σ' H' p)⟩⟩
end
end Lm

namespace Lm
open PySem L2 Evl RZ
/-- rows of texts, each a list or a tuple -/
structure RowsF (H : Hp) (xs : List V) (fs : List (Str × List Str)) : Prop where
  len : xs.length = fs.length
  at_ : ∀ (i : Nat) z, fs[i]? = some z → ∃ p : Addr, xs[i]? = some (.ref p) ∧ SeqAt H p ((z.1 :: z.2).map V.str)
theorem seq_same {H H' : Hp} {p : Addr} {xs : List V} (h : SeqAt H p xs) (e : Same H H') : SeqAt H' p xs := h.elim (fun h => .inl (e _ _ h)) fun h => .inr (e _ _ h)
theorem RowsF.same {H H' : Hp} {xs : List V} {fs : List (Str × List Str)} (h : RowsF H xs fs) (e : Same H H') : RowsF H' xs fs := ⟨h.len, fun i z hz => let ⟨p, h1, h2⟩ := h.at_ i z hz; ⟨p, h1, seq_same h2 e⟩⟩
structure FsOk (fs : List (Str × List Str)) : Prop where
  l0 : 0 < fs.length
  l3 : fs.length ≤ 3
  ok : ∀ z ∈ fs, FldOk z.1 z.2
  nd : (fs.map fun z => z.1).Nodup
/-- for i, x in enumerate(a), a list or a tuple that stands still -/
theorem for_enumA1 {K : PySem.W.Frag} {a : Addr} {xs : List V} {g : TG} {tb : TS} {D : Ends} {σ : St} {H : Hp} (hq : SeqAt H a xs) (Pv : Nat → St → Hp → Prop) (h0 : Pv 0 σ H) (hG : ∀ i σ' H', i ≤ xs.length → Pv i σ' H' → ∀ o, H a = some o → H' a = some o)
    (hs : ∀ i x σ H H', i < xs.length → Pv i σ H → YPair (fun i => some (.int (i : Nat))) (fun i => xs[i]?) i H x H' → g x σ H' fun σ2 H2 => tb { D with nx := Pv (i + 1), ct := Pv (i + 1), bk := D.nx } σ2 H2) (hd : ∀ σ H, Pv xs.length σ H → D.nx σ H) :
    ∃ a' xs', [V.ref a] = [V.ref a'] ∧ ((SqL K H a' xs' ∧ ∃ W : Nat → Nat → St → Hp → Prop, (∃ m, W 0 m σ H) ∧ ∀ i m σ H, W i m σ H →
      ((Ite K a').stop i H ∧ D.nx σ H) ∨ ((Ite K a').go i H ∧ ∃ N : St → Hp → Prop, (∀ σ' H', N σ' H' → ∃ m', m' < m ∧ W (i + 1) m' σ' H') ∧ ∀ x H', (Ite K a').yld i H x H' → g x σ H' fun σ2 H2 => tb { D with nx := N, ct := N, bk := D.nx } σ2 H2)) ∨
      (SqT K H a' xs' ∧ ∃ W : Nat → Nat → St → Hp → Prop, (∃ m, W 0 m σ H) ∧ ∀ i m σ H, W i m σ H →
      ((IteT K a').stop i H ∧ D.nx σ H) ∨ ((IteT K a').go i H ∧ ∃ N : St → Hp → Prop, (∀ σ' H', N σ' H' → ∃ m', m' < m ∧ W (i + 1) m' σ' H') ∧ ∀ x H', (IteT K a').yld i H x H' → g x σ H' fun σ2 H2 => tb { D with nx := N, ct := N, bk := D.nx } σ2 H2))) := by
  rcases hq with hq | hq
  · exact ⟨a, xs, rfl, .inl ⟨SqL.of hq, for_it walk_enum Pv h0 (fun i σ' H' hi p => SqL.of (hG i σ' H' hi p _ hq)) hs hd⟩⟩
  · exact ⟨a, xs, rfl, .inr ⟨SqT.of hq, for_it walk_enumT Pv h0 (fun i σ' H' hi p => SqT.of (hG i σ' H' hi p _ hq)) hs hd⟩⟩
theorem sq_go1 {te : TE} {g : TG} {tz : TS} {D : Ends} {σ : L2.St} {H : Hp} (h : te σ H fun v H1 => g v σ H1 (tz D)) : tSeq (tAsg te g) tz D σ H := h
theorem ev_notN1 {σ : L2.St} {H : Hp} {te : TE} (h : Ev te σ H .non) : Ev (tOp rNotN te (tC .non)) σ H (.bl false) := fun H1 e1 Q q => h H1 e1 _ fun H2 e2 => ⟨rfl, q H2 e2⟩
def ways : List Str := ["stay", "field", "greater"]
section
variable {P : Program} {w : World} {K : PySem.W.Frag} {mg : Str → Option Value} {base : Heap} {f : Addr} {fd : FuncData}
def spReqFields : Sp := fun vs H Q _ => ∃ (a : Addr) (xs : List V) (fs : List (Str × List Str)), vs = [.ref a] ∧ SeqAt H a xs ∧ RowsF H xs fs ∧ FsOk fs ∧ ∀ H', Same H H' → Q .non H'
abbrev s_require_fields : Stmt := top 14
theorem sc_require_fields : FnScope ["fields", "names", "index", "field", "reason"] ["fields"] (defScope s_require_fields) := ⟨rfl, rfl, rfl, by decide +kernel, rfl, by decide +kernel, by decide +kernel⟩
theorem ok_req_fields {fR fW : Addr} {fdR fdW : FuncData} (F : L2.Fun K "require_fields" "require_fields" s_require_fields f fd) (T : Blt mg) (D_is_row : DefOk P w K mg base 1 "is_row" fR fdR ["x"] spIsRow) (D_wrong_with : DefOk P w K mg base 2 "wrong_with" fW fdW ["field", "names"] spWrongNo) :
    FnOk P w K mg base CX0 3 f fd ["fields"] spReqFields := by
  refine F.ok sc_require_fields (fun vs H Q E h => ?_) (fun cdv A outer s H vs Q E hr h => ?_)
  · obtain ⟨a, xs, fs, rfl, _⟩ := h
    rfl
  · obtain ⟨a, xs, fs, rfl, ha, hR, hf, k⟩ := h
    have lx := hR.len
    have l0 := hf.l0
    have l3 := hf.l3
    refine ⟨_, (pss_cons (ps_if (PW.pt (pw_or (pt_not (pt_val (pe_d D_is_row (hr.mono (by decide)) (pa_cons (pv 0) pa_nil)))) (pw_or1 (pt_cmpR op_eq (pe_callB call_len_seq (by rfl) T.b_len PySem.boot_len (pa_cons (pv 0) pa_nil)) pe_int (nomark _))))) (pss_one ps_never) pss_nil)
        (pss_cons (ps_set (i := 1) sc_require_fields.nd rfl (by first | exact Or.inl rfl | exact Or.inr rfl) (pe_lst pa_nil))
        (pss_one (ps_for PassesOwn.never rfl (pi_enumA rfl T.b_enumerate (pa_cons (pv 0) pa_nil)) (pg_tup rfl (pgs_cons (pg_name (i := 2) sc_require_fields.nd rfl (by first | exact Or.inl rfl | exact Or.inr rfl)) (pgs_cons (pg_name (i := 3) sc_require_fields.nd rfl (by first | exact Or.inl rfl | exact Or.inr rfl)) pgs_nil))) (pss_cons (ps_set (i := 4) sc_require_fields.nd rfl (by first | exact Or.inl rfl | exact Or.inr rfl) (pe_d D_wrong_with (hr.mono (by decide)) (pa_cons (pv 3) (pa_cons (pv 1) pa_nil))))
        (pss_cons (ps_if (pt_cmpR op_notN1 (pv 4) pe_non (nomark _)) (pss_one ps_never) pss_nil)
        (pss_one (ps_expr (pe_bm PySem.F.plainAttrs_list PySem.F.slot_list_append PySem.F.type_list_append mt_append (pv 1) (pa_cons (pe_ix ix_seq (pv 3) pe_int (fun _ _ => rfl)) pa_nil)))))))))), ?_⟩
    have isr : Ev (tCall spIsRow [] E0 (tCons (tVar 0) tNil)) [some (.ref a), none, none, none, none] H (.bl true) := fun H1 e1 Q q => ⟨_, rfl, a, _, rfl, seq_same ha e1, fun H2 e2 => q H2 e2⟩
    refine q_when (b := false) (et_is (et_or (et_not (et_B isr)) fun _ => et_test (ev_op (ev_lenQ1 (ev_var rfl) ha) ev_c (rv_eq rfl))) ?_) (fun z => nomatch z) fun _ H1 e1 => ?_
    · have : ¬ V.int (xs.length : Int) = V.int 0 := fun z => by have := V.int.inj z; omega
      simp [this]
    refine q_asgL (el_lst ea_nil (by show 0 ≤ 100000; decide)) fun nl H2 nnl e2 hnl => ?_
    have e02 := Same.trans e1 e2
    have nnl0 : H nl = none := fresh_back e1 nnl
    dsimp only [L2.start, List.set]
    refine ⟨_, rfl, for_enumA1 (seq_same ha e02) (fun i σ' H' => ∃ u2 u3 u4 : Option V, σ' = [some (.ref a), some (.ref nl), u2, u3, u4] ∧ Same H H' ∧ H' nl = some (.lst (((fs.take i).map fun z => z.1).map V.str))) ⟨_, _, _, rfl, e02, hnl⟩ (fun i σ' H' _ ⟨_, _, _, _, e, _⟩ o ho => ?_) ?_ ?_⟩
    · rcases ha with h | h
      · rw [e02 _ _ h] at ho
        cases ho
        exact e _ _ h
      · rw [e02 _ _ h] at ho
        cases ho
        exact e _ _ h
    · rintro i x σ' H3 H4 hi ⟨u2, u3, u4, rfl, e, hn⟩ ⟨tpa, x1, x2, rfl, nT, rfl, hx1, hx2⟩
      cases (Option.some.inj hx1)
      have hif : i < fs.length := by omega
      have hz : fs[i]? = some fs[i] := List.getElem?_eq_getElem hif
      obtain ⟨p, hp, hsp⟩ := hR.at_ i _ hz
      have hx2 : xs[i]? = some x2 := hx2
      rw [hp] at hx2
      cases hx2
      generalize fs[i] = z at hz hsp
      have eT := Same.upd' nT (o := .tup [.int (i : Nat), .ref p])
      have e4 := Same.trans e eT
      have hn4 := eT _ _ hn
      refine ⟨tpa, _, rfl, SqT.of upd_same, rfl, _, _, rfl, _, _, rfl, rfl, ?_⟩
      dsimp only [List.set]
      generalize upd H3 tpa (.tup [.int (i : Nat), .ref p]) = H4 at e4 hn4 ⊢
      have hnn : z.1 ∉ (fs.take i).map fun z => z.1 := fun h => by
        obtain ⟨y, hy, hyz⟩ := List.mem_map.mp h
        obtain ⟨j, hj, hjy⟩ := List.mem_iff_getElem.mp hy
        rw [List.length_take] at hj
        rw [List.getElem_take] at hjy
        have h1 := List.pairwise_iff_getElem.mp hf.nd j i (by rw [List.length_map]; omega) (by rw [List.length_map]; omega) (by omega)
        rw [List.getElem_map, List.getElem_map] at h1
        have h2 : fs[i] = z := by rw [List.getElem?_eq_getElem hif] at hz; exact Option.some.inj hz
        rw [hjy, h2] at h1
        exact h1 hyz
      refine sq_go1 ⟨_, rfl, _, rfl, p, nl, z.1, z.2, _, rfl, seq_same hsp e4, hf.ok z (List.mem_of_getElem? hz), hn4, by rw [List.length_map, List.length_take]; omega, hnn, fun H5 e5 => ?_⟩
      dsimp only [gName, List.set]
      refine q_when (b := false) (et_test (ev_notN1 (ev_var rfl))) (fun z => nomatch z) fun _ H6 e6 => ?_
      have e46 := Same.trans e5 e6
      refine s_app (e46 _ _ hn4) (ev_var rfl) (ev_op (ev_var rfl) ev_c (rv_ixQ1 (n := 0) (seq_same (seq_same hsp e4) e46) rfl)) (by rw [List.length_map, List.length_map, List.length_take]; omega) fun H7 e7 => ?_
      refine ⟨_, _, _, rfl, Same.mut (Same.trans e4 (Same.trans e46 e7)) nnl0, ?_⟩
      rw [upd_same, List.take_succ, hz, List.map_append, List.map_append]
      rfl
    · rintro σ' H' ⟨u2, u3, u4, rfl, e, _⟩
      exact k H' e
/-- what may be shown -/
def spPairS : Sp := fun vs H Q _ => ∃ (a : Addr) (wy nm : Str), vs = [.ref a] ∧ SeqAt H a [.str wy, .str nm] ∧ wy ∈ ways ∧ isW nm = true ∧ ∀ H', Same H H' → Q (.bl true) H'
abbrev s_is_pair_shown : Stmt := top 16
theorem sc_is_pair_shown : FnScope ["show"] ["show"] (defScope s_is_pair_shown) := ⟨rfl, rfl, rfl, by decide +kernel, rfl, by decide +kernel, by decide +kernel⟩
theorem ok_pair_shown {C0 W0 fR fI : Addr} {fdR fdI : FuncData} {tM : Tok} (F : L2.Fun K "is_pair_shown" "is_pair_shown" s_is_pair_shown f fd) (T : Blt mg) (T' : RlCst mg C0 W0 tM) (hW : ∀ H, SqT K H W0 (ways.map V.str)) (D_is_row : DefOk P w K mg base 1 "is_row" fR fdR ["x"] spIsRow) (D_is_word : DefOk P w K mg base 1 "is_word" fI fdI ["x"] spIsWord) :
    FnOk P w K mg base CX0 2 f fd ["show"] spPairS := by
  refine F.ok sc_is_pair_shown (fun vs H Q E h => ?_) (fun cdv A outer s H vs Q E hr h => ?_)
  · obtain ⟨a, wy, nm, rfl, _⟩ := h
    rfl
  · obtain ⟨a, wy, nm, rfl, ha, hw, hn, k⟩ := h
    refine ⟨_, (pss_one (ps_ret (pe_and (pe_d D_is_row (hr.mono (by decide)) (pa_cons (pv 0) pa_nil)) (pe_and (pe_cmpR op_eq (pe_callB call_len_seq (by rfl) T.b_len PySem.boot_len (pa_cons (pv 0) pa_nil)) pe_int (nomark _)) (pe_and (pe_cmpR op_in_seq (pe_ix ix_seq (pv 0) pe_int (fun _ _ => rfl)) (pe_glob (v := .ref W0) rfl T'.g_WAYS rfl) (by rfl)) (pe_one (pe_d D_is_word (hr.mono (by decide)) (pa_cons (pe_ix ix_seq (pv 0) pe_int (fun _ _ => rfl)) pa_nil)))))))), ?_⟩
    have isr : Ev (tCall spIsRow [] E0 (tCons (tVar 0) tNil)) [some (.ref a)] H (.bl true) := fun H1 e1 Q q => ⟨_, rfl, a, _, rfl, seq_same ha e1, fun H2 e2 => q H2 e2⟩
    have ix : ∀ {H1 : Hp} (i : Nat) (v : V), Ex H H1 → ([.str wy, .str nm] : List V)[i]? = some v → Ev (tOp (rIx K) (tVar 0) (tC (.int (i : Nat)))) [some (.ref a)] H1 v := fun i v e h => ev_op (ev_var rfl) ev_c (rv_ixQ1 (seq_same ha e) h)
    have inw : Ev (tOp (rIn K false) (tOp (rIx K) (tVar 0) (tC (.int 0))) (tC (.ref W0))) [some (.ref a)] H (.bl true) := fun H1 e1 Q q => ix 0 _ e1 rfl H1 (Ex.refl _) _ fun H2 e2 => ⟨W0, ways.map V.str, rfl, .inr (hW H2), rfl, strs_flat1 _, by
      show Q (.bl (inV (.str wy) (ways.map V.str))) H2
      rw [strs_in1, decide_eq_true hw]
      exact q H2 e2⟩
    have isw : Ev (tCall spIsWord [] E0 (tCons (tOp (rIx K) (tVar 0) (tC (.int 1))) tNil)) [some (.ref a)] H (.bl true) := fun H1 e1 Q q => ix 1 _ e1 rfl H1 (Ex.refl _) _ fun H2 e2 => ⟨nm, rfl, isW_sz hn, fun H3 e3 => by rw [hn]; exact q H3 (Ex.trans e2 e3)⟩
    exact s_ret (ev_andV isr fun _ => ev_andV (ev_is (ev_op (ev_lenQ1 (ev_var rfl) ha) ev_c (rv_eq rfl)) rfl) fun _ => ev_andV inw fun _ => isw) fun H1 e1 => k H1 e1
end
end Lm

namespace Lm
open PySem L2 Evl RZ
def rTupOf (K : PySem.W.Frag) : List V → Hp → VK → Prop := fun xs H Q => ∃ p ys, xs = [.ref p] ∧ ((SqL K H p ys ∧ ∀ l, H l = none → Q (.ref l) (upd H l (.tup ys))) ∨ (SqT K H p ys ∧ Q (.ref p) H))
/-- rows of texts, with where they stand -/
def RowsZ (H : Hp) (xs : List V) (l : List (Addr × Str × List Str)) : Prop := xs = l.map (fun z => V.ref z.1) ∧ ∀ z ∈ l, SeqAt H z.1 ((z.2.1 :: z.2.2).map V.str)
def fsOf (l : List (Addr × Str × List Str)) : List (Str × List Str) := l.map fun z => z.2
theorem RowsZ.same {H H' : Hp} {xs : List V} {l : List (Addr × Str × List Str)} (h : RowsZ H xs l) (e : Same H H') : RowsZ H' xs l := ⟨h.1, fun z hz => seq_same (h.2 z hz) e⟩
theorem RowsZ.f {H : Hp} {xs : List V} {l : List (Addr × Str × List Str)} (h : RowsZ H xs l) : RowsF H xs (fsOf l) := ⟨by rw [h.1]; unfold fsOf; rw [List.length_map, List.length_map], fun i z hz => by
  unfold fsOf at hz
  rw [List.getElem?_map] at hz
  cases hi : l[i]? with
  | none => rw [hi] at hz; cases hz
  | some y =>
    rw [hi] at hz
    cases hz
    exact ⟨y.1, by rw [h.1, List.getElem?_map, hi]; rfl, h.2 y (List.mem_of_getElem? hi)⟩⟩
section
variable {K : PySem.W.Frag} {σ : L2.St} {H : Hp} {te tl : TE}
theorem el_mapS {α : Type} {l : List α} {f g : α → V} {j : Nat} {a : Addr} (h : Ev tl σ H (.ref a)) (ha : SeqAt H a (l.map f)) (hz : l.length ≤ 40000) (he : ∀ x ∈ l, ∀ H1, Ex H H1 → Ev te ((wipe σ [j]).set j (some (f x))) H1 (g x)) :
    EvL (tLc (fun σ H R => iList K tl σ H R ∨ iTup K tl σ H R) (gName j) tYes te [j]) σ H (l.map g) := fun H1 e Q q => ha.elim (fun x => .inl (el_mapL (K := K) h x hz he H1 e Q q)) fun x => .inr (el_mapT (K := K) h x hz he H1 e Q q)
/-- what is there behind i turns -/
def TpW (H : Hp) (l : List (Addr × Str × List Str)) (D : Addr) (i : Nat) (H' : Hp) : Prop := Ex H H' ∧ ∃ ts : List Addr, H' D = some (.lst (ts.map V.ref)) ∧ ts.length = i ∧ ∀ (j : Nat) z t, l[j]? = some z → ts[j]? = some t → H' t = some (.tup ((z.2.1 :: z.2.2).map V.str))
theorem go_tups {a : Addr} {xs : List V} {l : List (Addr × Str × List Str)} {i0 j : Nat} {Q : VK} (h : σ[i0]? = some (some (.ref a))) (ha : SeqAt H a xs) (hR : RowsZ H xs l) (hl : l.length ≤ 900) (hj : ∀ v, ((wipe σ [j]).set j (some v))[j]? = some (some v))
    (k : ∀ D (ts : List Addr) (H' : Hp), H D = none → Ex H H' → H' D = some (.lst (ts.map V.ref)) → ts.length = l.length → (∀ (j : Nat) z t, l[j]? = some z → ts[j]? = some t → H' t = some (.tup ((z.2.1 :: z.2.2).map V.str))) → Q (.ref D) H') :
    tLc (fun σ H R => iList K (tVar i0) σ H R ∨ iTup K (tVar i0) σ H R) (gName j) tYes (tCB (rTupOf K) (tCons (tVar j) tNil)) [j] σ H Q := by
  have lx : xs.length = l.length := by rw [hR.1, List.length_map]
  have turn : ∀ (D : Addr), H D = none → ∀ (i : Nat) (x : V) (H' : Hp), xs[i]? = some x → TpW H l D i H' → wipe ((wipe σ [j]).set j (some x)) [j] = wipe σ [j] ∧ tYes ((wipe σ [j]).set j (some x)) H' fun b H3 => if b = true then tCB (rTupOf K) (tCons (tVar j) tNil) ((wipe σ [j]).set j (some x)) H3 fun y H4 => ∃ acc, H4 D = some (.lst acc) ∧ acc.length < sizeLine ∧ TpW H l D (i + 1) (upd H4 D (.lst (acc ++ [y]))) else TpW H l D (i + 1) H3 := by
    rintro D hD i x H' hx ⟨e, ts, h1, h2, h3⟩
    rw [hR.1] at hx
    obtain ⟨z, hz, rfl⟩ := map_inv1 hx
    have hi := (List.getElem?_eq_some_iff.mp hz).1
    have hs := seq_same (hR.2 z (List.mem_of_getElem? hz)) e
    refine ⟨wipe1 _ j _, ?_⟩
    unfold tYes
    dsimp only
    rw [if_pos rfl]
    have step : ∀ (t : Addr) (H4 : Hp), Ex H' H4 → t ≠ D → H4 t = some (.tup ((z.2.1 :: z.2.2).map V.str)) → ∃ acc, H4 D = some (.lst acc) ∧ acc.length < sizeLine ∧ TpW H l D (i + 1) (upd H4 D (.lst (acc ++ [.ref t]))) := fun t H4 e4 htD ht => by
      refine ⟨_, e4 _ _ h1, small1000 (by rw [List.length_map]; omega), Ex.mut (Ex.trans e e4) hD, ts ++ [t], ?_, by simp [h2], fun m y u q1 q2 => ?_⟩
      · rw [upd_same, List.map_append]
        rfl
      · rcases Nat.lt_or_ge m ts.length with q | q
        · rw [List.getElem?_append_left q] at q2
          have h4 := h3 m y u q1 q2
          rw [upd_ne (ne_of h4 h1 (by intro z; cases z))]
          exact e4 _ _ h4
        · rw [List.getElem?_append_right q] at q2
          have hm : m = i := by
            have := (List.getElem?_eq_some_iff.mp q2).1
            simp at this
            omega
          subst hm
          rw [h2, Nat.sub_self] at q2
          cases q2
          rw [hz] at q1
          cases q1
          rw [upd_ne htD]
          exact ht
    rcases hs with hs | hs
    · exact ⟨_, hj _, z.1, _, rfl, .inl ⟨SqL.of hs, fun n nn => step n _ (Ex.new nn) (ne_of_none h1 nn).symm upd_same⟩⟩
    · exact ⟨_, hj _, z.1, _, rfl, .inr ⟨SqT.of hs, step z.1 _ (Ex.refl _) (ne_of hs h1 (by intro z; cases z)) hs⟩⟩
  have fin : ∀ (D : Addr), H D = none → ∀ H', TpW H l D xs.length H' → Q (.ref D) H' := fun D hD H' ⟨e, ts, h1, h2, h3⟩ => k D ts H' hD e h1 (by rw [h2, lx]) h3
  rcases ha with ha | ha
  · exact .inl ⟨_, h, a, rfl, ⟨_, SqL.of ha⟩, fun D hD => lc_list (K := K) (xs := xs) (TpW H l D) ⟨Ex.new hD, [], upd_same, rfl, fun j z t q1 q2 => by simp at q2⟩ (fun i H' _ p => SqL.of (p.1 _ _ ha)) (fun i x H' hx p => turn D hD i x H' hx p) (fun H' p => fin D hD H' p)⟩
  · exact .inr ⟨_, h, a, rfl, ⟨_, SqT.of ha⟩, fun D hD => lc_tup (K := K) (xs := xs) (TpW H l D) ⟨Ex.new hD, [], upd_same, rfl, fun j z t q1 q2 => by simp at q2⟩ (fun i H' _ p => SqT.of (p.1 _ _ ha)) (fun i x H' hx p => turn D hD i x H' hx p) (fun H' p => fin D hD H' p)⟩
end
end Lm

namespace Lm
open PySem L2 Evl RZ
/-! ### a rule as it stands in the heap -/
def q1 (t : Addr) : List (Str × V) := [("rows", .ref t)]
def q2 (t : Addr) (wy : Str) : List (Str × V) := [("rows", .ref t), ("way", .str wy)]
def rlF (t : Addr) (wy : Str) (at_ : Nat) : List (Str × V) := [("rows", .ref t), ("way", .str wy), ("at", .int (at_ : Nat))]
theorem r_1 : (("way" : Str) == "rows") = false := by decide +kernel
theorem r_2 : (("at" : Str) == "rows") = false := by decide +kernel
theorem r_3 : (("at" : Str) == "way") = false := by decide +kernel
theorem ne_b1 {a b : Str} (h : (a == b) = false) : ¬ (b = a) := fun z => by rw [z] at h; simp at h
theorem put_r1 (t : Addr) : putF "rows" (.ref t) [] = q1 t := rfl
theorem put_r2 (t : Addr) (wy : Str) : putF "way" (.str wy) (q1 t) = q2 t wy := by simp [putF, q1, q2, ne_b1 r_1]
theorem put_r3 (t : Addr) (wy : Str) (at_ : Nat) : putF "at" (.int (at_ : Nat)) (q2 t wy) = rlF t wy at_ := by simp [putF, q2, rlF, ne_b1 r_2, ne_b1 r_3]
theorem rl_rows (t : Addr) (wy : Str) (i : Nat) : (rlF t wy i).lookup ("rows" : Str) = some (.ref t) := by simp [rlF, List.lookup]
theorem rl_way (t : Addr) (wy : Str) (i : Nat) : (rlF t wy i).lookup ("way" : Str) = some (.str wy) := by simp [rlF, List.lookup, r_1]
theorem rl_at (t : Addr) (wy : Str) (i : Nat) : (rlF t wy i).lookup ("at" : Str) = some (.int (i : Nat)) := by simp [rlF, List.lookup, r_2, r_3]
theorem rl_no (t : Addr) (wy : Str) (i : Nat) {m : Str} (h1 : (m == "rows") = false) (h2 : (m == "way") = false) (h3 : (m == "at") = false) : (rlF t wy i).lookup m = none := by simp [rlF, List.lookup, h1, h2, h3]
/-- the rule with the rows fs that shows by the way wy the field i, at a -/
structure RlAt (CR : Addr) (H : Hp) (a : Addr) (fs : List (Str × List Str)) (wy : Str) (i : Nat) : Prop where
  ob : ∃ dx t, ∃ ts : List Addr, H a = some (.ins CR dx (rlF t wy i)) ∧ H t = some (.tup (ts.map V.ref)) ∧ ts.length = fs.length ∧ ∀ (j : Nat) z u, fs[j]? = some z → ts[j]? = some u → H u = some (.tup ((z.1 :: z.2).map V.str))
  ok : FsOk fs
  wy : wy ∈ ways
  at_ : i < fs.length
theorem RlAt.same {CR : Addr} {H H' : Hp} {a : Addr} {fs : List (Str × List Str)} {wy : Str} {i : Nat} (k : RlAt CR H a fs wy i) (e : Same H H') : RlAt CR H' a fs wy i := by
  obtain ⟨⟨dx, t, ts, h1, h2, h3, h4⟩, h5, h6, h7⟩ := k
  exact ⟨⟨dx, t, ts, e _ _ h1, e _ _ h2, h3, fun j z u p q => e _ _ (h4 j z u p q)⟩, h5, h6, h7⟩
structure RlTxt (K : PySem.W.Frag) (C : Addr) : Prop where
  cl : Cls K C
  nR : NoAttr K C "rows"
  nW : NoAttr K C "way"
  nA : NoAttr K C "at"
section
variable {P : Program} {w : World} {K : PySem.W.Frag} {mg : Str → Option Value} {base : Heap} {f : Addr} {fd : FuncData}
def spRlInit (CR : Addr) : Sp := fun vs H Q _ => ∃ (p dx a b : Addr) (xs : List V) (l : List (Addr × Str × List Str)) (wy nm : Str) (i : Nat) (H0 : Hp), vs = [.ref p, .ref a, .ref b] ∧ H p = some (.ins CR dx []) ∧ H0 p = none ∧ Same H0 H ∧ SeqAt H0 a xs ∧ RowsZ H0 xs l ∧ FsOk (fsOf l) ∧ SeqAt H0 b [.str wy, .str nm] ∧ wy ∈ ways ∧ ((fsOf l).map fun z => z.1)[i]? = some nm ∧
  ∀ H', RlAt CR H' p (fsOf l) wy i → Kp p H H' → Q .non H'
abbrev s_Rule_init : Stmt := inClass (top 13) 0
theorem sc_Rule_init : FnScope ["self", "fields", "show", "names", "field"] ["self", "fields", "show"] (defScope s_Rule_init) := ⟨rfl, rfl, rfl, by decide +kernel, rfl, by decide +kernel, by decide +kernel⟩
theorem sq_fldB {rd : List V → Hp → VK → Prop} {tl ta : TE} {fn : Str} {tz : TS} {D : Ends} {σ : L2.St} {H : Hp} (h : tl σ H fun v H1 => rd [v] H1 fun y H2 => sFld K ta (tC y) fn { D with nx := tz D } σ H2) : tSeq (sFld K ta (tCB rd (tCons tl tNil)) fn) tz D σ H := h
theorem Same.kpi1 {H0 H H' : Hp} {p : Addr} (np : H0 p = none) (e : Same H0 H) (k : Kp p H H') : Same H0 H' := fun b o h => k b o (ne_of_none h np) (e b o h)
theorem ok_rl_init {CR fR fS : Addr} {fdR fdS : FuncData} (F : L2.Fun K "__init__" "Rule.__init__" s_Rule_init f fd) (T : Blt mg) (W : RlTxt K CR) (D_require_fields : DefOk P w K mg base 3 "require_fields" fR fdR ["fields"] spReqFields) (D_is_pair_shown : DefOk P w K mg base 2 "is_pair_shown" fS fdS ["show"] spPairS) :
    FnOk P w K mg base CX0 4 f fd ["self", "fields", "show"] (spRlInit CR) := by
  refine F.ok sc_Rule_init (fun vs H Q E h => ?_) (fun cdv A outer s H vs Q E hr h => ?_)
  · obtain ⟨p, dx, a, b, xs, l, wy, nm, i, H0, rfl, _⟩ := h
    rfl
  · obtain ⟨p, dx, a, b, xs, l, wy, nm, i, H0, rfl, hp, np, e0, ha, hR, hf, hb, hw, hi, k⟩ := h
    refine ⟨_, (pss_cons (ps_expr (pe_d D_require_fields (hr.mono (by decide)) (pa_cons (pv 1) pa_nil)))
        (pss_cons (ps_setLc (i := 3) (own := [("field", 4)]) (g := gName 4) (tt := tYes) (te := (tOp (rIx K) (tVar 4) (tC (.int 0)))) rfl sc_Rule_init.nd rfl rfl (sw_true rfl rfl rfl (by decide +kernel)) (pi_or (pi_list (pv 1)) (pi_tup (pv 1))) (blkOk_by (own := [("field", 4)]) (by kernel_rfl)) (fun _ _ _ _ _ => (pg_name (i := 4) sc_Rule_init.nd rfl (by first | exact Or.inl rfl | exact Or.inr rfl))) (fun _ _ _ _ _ => pts_nil) (fun _ _ _ _ _ => by exact (pe_ix ix_seq (pv 4) pe_int (fun _ _ => rfl))))
        (pss_cons (ps_if (PW.pt (pw_or (pt_not (pt_val (pe_d D_is_pair_shown (hr.mono (by decide)) (pa_cons (pv 2) pa_nil)))) (pw_or1 (pt_cmpR op_notIn_seq (pe_ix ix_seq (pv 2) pe_int (fun _ _ => rfl)) (pv 3) (by rfl))))) (pss_one ps_never) pss_nil)
        (pss_cons (ps_fld (pv 0) (pe_callTy call_tuple_of (by rfl) T.b_tuple (by decide +kernel) (by exact (pa_cons (pe_lc (own := [("field", 4)]) (g := gName 4) (tt := tYes) (te := (tCB (rTupOf K) (tCons (tVar 4) tNil))) rfl sc_Rule_init.nd (pi_or (pi_list (pv 1)) (pi_tup (pv 1))) (blkOk_by (own := [("field", 4)]) (by kernel_rfl)) (fun _ _ _ _ _ => (pg_name (i := 4) sc_Rule_init.nd rfl (by first | exact Or.inl rfl | exact Or.inr rfl))) (fun _ _ _ _ _ => pts_nil) (fun _ _ _ _ _ => by exact (pe_callTy call_tuple_of (by rfl) T.b_tuple (by decide +kernel) (pa_cons (pv 4) pa_nil)))) pa_nil))) rfl)
        (pss_cons (ps_fld (pv 0) (pe_ix ix_seq (pv 2) pe_int (fun _ _ => rfl)) rfl)
        (pss_one (ps_fld (pv 0) (pe_bm PySem.F.plainAttrs_list PySem.F.slot_list_index PySem.F.type_list_index mt_index (pv 3) (pa_cons (pe_ix ix_seq (pv 2) pe_int (fun _ _ => rfl)) pa_nil)) rfl))))))), ?_⟩
    have l3 := hf.l3
    have ll : (fsOf l).length = l.length := by unfold fsOf; rw [List.length_map]
    have hil : i < (fsOf l).length := by have := (List.getElem?_eq_some_iff.mp hi).1; rwa [List.length_map] at this
    have nmW : isW nm = true := by
      obtain ⟨z, hz, hn⟩ := List.mem_map.mp (List.mem_of_getElem? hi)
      rw [← hn]
      exact (hf.ok z hz).wd
    refine ⟨_, rfl, a, xs, fsOf l, rfl, seq_same ha e0, (hR.same e0).f, hf, fun H1 e1 => ?_⟩
    have e01 := Same.trans e0 e1
    have ha1 := seq_same ha e01
    rw [hR.1] at ha1
    dsimp only [L2.start]
    refine q_asgL (xs := (((fsOf l).map fun z => z.1).map V.str)) ?_ fun nl H2 nnl e2 hnl => ?_
    · have := el_mapS (K := K) (σ := [some (.ref p), some (.ref a), some (.ref b), none, none]) (H := H1) (te := (tOp (rIx K) (tVar 4) (tC (.int 0)))) (tl := tVar 1) (l := l) (f := fun z => V.ref z.1) (g := fun z => V.str z.2.1) (j := 4) (ev_var rfl) ha1 (by omega) fun x hx H2 e2 => ev_op (ev_var rfl) ev_c (rv_ixQ1 (n := 0) (seq_same (hR.2 x hx) (Same.trans e01 e2)) rfl)
      unfold fsOf
      rw [List.map_map, List.map_map]
      exact this
    have e02 := Same.trans e01 e2
    have isr : Ev (tCall spPairS [] E0 (tCons (tVar 2) tNil)) [some (.ref p), some (.ref a), some (.ref b), some (.ref nl), none] H2 (.bl true) := fun H3 e3 Q q => ⟨_, rfl, b, wy, nm, rfl, seq_same hb (Same.trans e02 e3), hw, nmW, fun H' e => q H' e⟩
    have inn : Ev (tOp (rIn K true) (tOp (rIx K) (tVar 2) (tC (.int 1))) (tVar 3)) [some (.ref p), some (.ref a), some (.ref b), some (.ref nl), none] H2 (.bl false) := ev_is (ev_op (ev_op (ev_var rfl) ev_c (rv_ixQ1 (n := 1) (seq_same hb e02) rfl)) (ev_var rfl) (rv_inL (neg := true) (sq_of hnl) rfl (strs_flat1 _))) (by
      rw [strs_in1, decide_eq_true (List.mem_of_getElem? hi)]
      rfl)
    refine q_when (b := false) (et_is (et_or (et_not (et_B isr)) fun _ => et_test inn) rfl) (fun z => nomatch z) fun _ H3 e3 => ?_
    have e03 := Same.trans e02 e3
    refine sq_fldB (go_tups (K := K) (σ := [some (.ref p), some (.ref a), some (.ref b), some (.ref nl), none]) (i0 := 1) (j := 4) rfl (seq_same ha e03) (hR.same e03) (by omega) (fun v => rfl) fun D ts H4 nD e4 hD lt ht => ?_)
    have e04 := Same.trans e03 e4
    refine ⟨D, _, rfl, .inl ⟨SqL.of hD, fun t nt => ?_⟩⟩
    have e14 : Same H H4 := Same.trans e1 (Same.trans e2 (Same.trans e3 e4))
    have hp4 := e14 _ _ hp
    have hnl4 := Same.trans e3 e4 _ _ hnl
    have htp : t ≠ p := (ne_of_none hp4 nt).symm
    have hln : nl ≠ p := ne_of hnl4 hp4 (by intro z; cases z)
    have et := Same.upd' nt (o := .tup (ts.map V.ref))
    refine ⟨_, rfl, p, CR, dx, _, rfl, et _ _ hp4, W.cl, W.nR, by decide, ?_⟩
    rw [put_r1]
    have k5 : Kp p H (upd (upd H4 t (.tup (ts.map V.ref))) p (.ins CR dx (q1 t))) := (Kp.of (Same.trans e14 et)).trans (Kp.upd _ _ _)
    have n5 : (upd (upd H4 t (.tup (ts.map V.ref))) p (.ins CR dx (q1 t))) nl = some (.lst (((fsOf l).map fun z => z.1).map V.str)) := by
      rw [upd_ne hln]
      exact et _ _ hnl4
    have t5 : (upd (upd H4 t (.tup (ts.map V.ref))) p (.ins CR dx (q1 t))) t = some (.tup (ts.map V.ref)) := by rw [upd_ne htp, upd_same]
    have u5 : ∀ (j : Nat) z u, (fsOf l)[j]? = some z → ts[j]? = some u → (upd (upd H4 t (.tup (ts.map V.ref))) p (.ins CR dx (q1 t))) u = some (.tup ((z.1 :: z.2).map V.str)) := fun j z u q1' q2' => by
      unfold fsOf at q1'
      rw [List.getElem?_map] at q1'
      cases hj : l[j]? with
      | none => rw [hj] at q1'; cases q1'
      | some y =>
        rw [hj] at q1'
        cases q1'
        have h4 := ht j y u hj q2'
        rw [upd_ne (ne_of h4 hp4 (by intro z; cases z))]
        exact et _ _ h4
    have p5 : (upd (upd H4 t (.tup (ts.map V.ref))) p (.ins CR dx (q1 t))) p = some (.ins CR dx (q1 t)) := upd_same
    generalize upd (upd H4 t (.tup (ts.map V.ref))) p (.ins CR dx (q1 t)) = H5 at k5 n5 t5 u5 p5 ⊢
    refine (ev_op (ev_var rfl) ev_c (rv_ixQ1 (n := 0) (seq_same hb (Same.kpi1 np e0 k5)) rfl)) H5 (Ex.refl _) _ fun H6 e6 => ?_
    refine ⟨_, rfl, p, CR, dx, _, rfl, e6 _ _ p5, W.cl, W.nW, (by show 1 < 1000; decide), ?_⟩
    rw [put_r2]
    have k6 : Kp p H (upd H6 p (.ins CR dx (q2 t wy))) := (k5.trans (Kp.of e6)).trans (Kp.upd _ _ _)
    have n6 : (upd H6 p (.ins CR dx (q2 t wy))) nl = some (.lst (((fsOf l).map fun z => z.1).map V.str)) := by
      rw [upd_ne hln]
      exact e6 _ _ n5
    have t6 : (upd H6 p (.ins CR dx (q2 t wy))) t = some (.tup (ts.map V.ref)) := by
      rw [upd_ne htp]
      exact e6 _ _ t5
    have u6 : ∀ (j : Nat) z u, (fsOf l)[j]? = some z → ts[j]? = some u → (upd H6 p (.ins CR dx (q2 t wy))) u = some (.tup ((z.1 :: z.2).map V.str)) := fun j z u a1 a2 => by
      have h5 := u5 j z u a1 a2
      rw [upd_ne (ne_of h5 p5 (by intro z; cases z))]
      exact e6 _ _ h5
    have p6 : (upd H6 p (.ins CR dx (q2 t wy))) p = some (.ins CR dx (q2 t wy)) := upd_same
    generalize upd H6 p (.ins CR dx (q2 t wy)) = H7 at k6 n6 t6 u6 p6 ⊢
    refine ⟨_, rfl, .inl ⟨rfl, _, sq_of n6⟩, (ev_op (ev_var rfl) ev_c (rv_ixQ1 (n := 1) (seq_same hb (Same.kpi1 np e0 k6)) rfl)) H7 (Ex.refl _) _ fun H8 e8 => ?_⟩
    refine ⟨nl, _, .str nm, i, .str nm, rfl, rfl, SqL.of (e8 _ _ n6), rfl, strs_flat1 _, by rw [List.getElem?_map, hi]; rfl, (by show (nm == nm) = true; simp), fun m z' hm hz' => ?_, ?_⟩
    · obtain ⟨y, hy, rfl⟩ := map_inv1 hz'
      show (y == nm) = false
      have h1 := (List.getElem?_eq_some_iff.mp hy)
      have h2 := (List.getElem?_eq_some_iff.mp hi)
      obtain ⟨h11, h12⟩ := h1
      obtain ⟨h21, h22⟩ := h2
      have := List.pairwise_iff_getElem.mp hf.nd m i h11 h21 hm
      rw [h12, h22] at this
      simpa using this
    · refine ⟨_, rfl, p, CR, dx, _, rfl, e8 _ _ p6, W.cl, W.nA, (by show 2 < 1000; decide), ?_⟩
      rw [put_r3]
      refine k _ ⟨⟨dx, t, ts, upd_same, ?_, by rw [lt, ll], fun j z u a1 a2 => ?_⟩, hf, hw, hil⟩ ((k6.trans (Kp.of e8)).trans (Kp.upd _ _ _))
      · rw [upd_ne htp]
        exact e8 _ _ t6
      · have h7 := u6 j z u a1 a2
        rw [upd_ne (ne_of h7 p6 (by intro z; cases z))]
        exact e8 _ _ h7
end
end Lm

namespace Lm
open PySem L2 Evl RZ
/-- rows that are tuples of texts -/
def RowsT (H : Hp) (xs : List V) (fs : List (Str × List Str)) : Prop := ∃ ts : List Addr, xs = ts.map V.ref ∧ ts.length = fs.length ∧ ∀ (j : Nat) z u, fs[j]? = some z → ts[j]? = some u → H u = some (.tup ((z.1 :: z.2).map V.str))
theorem RowsT.same {H H' : Hp} {xs : List V} {fs : List (Str × List Str)} (h : RowsT H xs fs) (e : Same H H') : RowsT H' xs fs := by
  obtain ⟨ts, h1, h2, h3⟩ := h
  exact ⟨ts, h1, h2, fun j z u p q => e _ _ (h3 j z u p q)⟩
theorem RowsT.get {H : Hp} {xs : List V} {fs : List (Str × List Str)} (h : RowsT H xs fs) {i : Nat} {z : Str × List Str} (hz : fs[i]? = some z) : ∃ u, xs[i]? = some (.ref u) ∧ H u = some (.tup ((z.1 :: z.2).map V.str)) := by
  obtain ⟨ts, rfl, h2, h3⟩ := h
  have hi := (List.getElem?_eq_some_iff.mp hz).1
  have hu : ts[i]? = some ts[i] := List.getElem?_eq_getElem (by omega)
  exact ⟨ts[i], by rw [List.getElem?_map, hu]; rfl, h3 i z _ hz hu⟩
theorem atI_n1 {xs : List V} {n : Nat} {v : V} (h : xs[n]? = some v) : atI xs (n : Nat) = some v := by
  have hn := (List.getElem?_eq_some_iff.mp h).1
  unfold atI
  rw [ixN_nat hn]
  exact h
theorem ev_fld1 {K : PySem.W.Frag} {σ : L2.St} {H : Hp} {te : TE} {a C dx : Addr} {fs : List (Str × V)} {f : Str} {v : V} (h : Ev te σ H (.ref a)) (ha : H a = some (.ins C dx fs)) (cl : Cls K C) (n : NoAttr K C f) (hf : fs.lookup f = some v) : Ev (tFld K te f) σ H v := fun H1 e Q q =>
  h H1 e _ fun H2 e2 => ⟨a, C, dx, fs, v, rfl, Ex.trans e e2 _ _ ha, cl, n, hf, q H2 e2⟩
section
variable {P : Program} {w : World} {K : PySem.W.Frag} {mg : Str → Option Value} {base : Heap} {f : Addr} {fd : FuncData}
def spRlFields (CR : Addr) : Sp := fun vs H Q _ => ∃ (a : Addr) (fs : List (Str × List Str)) (wy : Str) (i : Nat), vs = [.ref a] ∧ RlAt CR H a fs wy i ∧ ∀ p xs H', H p = none → Same H H' → H' p = some (.lst xs) → RowsT H' xs fs → Q (.ref p) H'
abbrev s_Rule_fields : Stmt := inClass (top 13) 1
theorem sc_Rule_fields : FnScope ["self"] ["self"] (defScope s_Rule_fields) := ⟨rfl, rfl, rfl, by decide +kernel, rfl, by decide +kernel, by decide +kernel⟩
theorem ok_rl_fields {CR : Addr} (F : L2.Fun K "fields" "Rule.fields" s_Rule_fields f fd) (T : Blt mg) (W : RlTxt K CR) : FnOk P w K mg base CX0 1 f fd ["self"] (spRlFields CR) := by
  refine F.ok sc_Rule_fields (fun vs H Q E h => ?_) (fun cdv A outer s H vs Q E hr h => ?_)
  · obtain ⟨a, fs, wy, i, rfl, _⟩ := h
    rfl
  · obtain ⟨a, fs, wy, i, rfl, ⟨⟨dx, t, ts, h1, h2, h3, h4⟩, h5, h6, h7⟩, k⟩ := h
    refine ⟨_, (pss_one (ps_ret (pe_callTy call_list_of (by rfl) T.b_list (by decide +kernel) (pa_cons (pe_fld (pv 0) rfl) pa_nil)))), ?_⟩
    refine ⟨_, rfl, a, CR, dx, _, _, rfl, h1, W.cl, W.nR, rl_rows _ _ _, ?_⟩
    refine ⟨t, _, rfl, .inr (SqT.of h2), fun p np => k p _ _ np (Same.upd' np) upd_same ⟨ts, rfl, h3, fun j z u p q => Same.upd' np _ _ (h4 j z u p q)⟩⟩
def spRlShow (CR : Addr) : Sp := fun vs H Q _ => ∃ (a : Addr) (fs : List (Str × List Str)) (wy : Str) (i : Nat), vs = [.ref a] ∧ RlAt CR H a fs wy i ∧ ∀ p nm H', (fs.map fun z => z.1)[i]? = some nm → H p = none → Same H H' → H' p = some (.tup [.str wy, .str nm]) → Q (.ref p) H'
abbrev s_Rule_show : Stmt := inClass (top 13) 2
theorem sc_Rule_show : FnScope ["self"] ["self"] (defScope s_Rule_show) := ⟨rfl, rfl, rfl, by decide +kernel, rfl, by decide +kernel, by decide +kernel⟩
theorem ok_rl_show {CR : Addr} (F : L2.Fun K "show" "Rule.show" s_Rule_show f fd) (T : Blt mg) (W : RlTxt K CR) : FnOk P w K mg base CX0 1 f fd ["self"] (spRlShow CR) := by
  refine F.ok sc_Rule_show (fun vs H Q E h => ?_) (fun cdv A outer s H vs Q E hr h => ?_)
  · obtain ⟨a, fs, wy, i, rfl, _⟩ := h
    rfl
  · obtain ⟨a, fs, wy, i, rfl, ⟨⟨dx, t, ts, h1, h2, h3, h4⟩, h5, h6, h7⟩, k⟩ := h
    refine ⟨_, (pss_one (ps_ret (pe_tup (pa_cons (pe_fld (pv 0) rfl) (pa_cons (pe_ix ix_tup (pe_ix ix_tup (pe_fld (pv 0) rfl) (pe_fld (pv 0) rfl) (fun _ _ => rfl)) pe_int (fun _ _ => rfl)) pa_nil))))), ?_⟩
    have hz : fs[i]? = some fs[i] := List.getElem?_eq_getElem h7
    obtain ⟨u, hu, hut⟩ := RowsT.get ⟨ts, rfl, h3, h4⟩ hz
    have hnm : (fs.map fun z => z.1)[i]? = some fs[i].1 := by rw [List.getElem?_map, hz]; rfl
    generalize fs[i] = z at hz hut hnm
    have fd1 : ∀ {H1 : Hp} {n : Str} {v : V}, Ex H H1 → (rlF t wy i).lookup n = some v → NoAttr K CR n → Ev (tFld K (tVar 0) n) [some (.ref a)] H1 v := fun e h n => ev_fld1 (ev_var rfl) (e _ _ h1) W.cl n h
    refine s_retU (eu_tup (ea_cons (fd1 (Ex.refl _) (rl_way _ _ _) W.nW) (ea_cons (ev_op (ev_op (fd1 (Ex.refl _) (rl_rows _ _ _) W.nR) (fd1 (Ex.refl _) (rl_at _ _ _) W.nA) (rv_ixT (SqT.of h2) (atI_n1 hu))) ev_c (rv_ixT (SqT.of hut) (atI_n1 (n := 0) rfl))) ea_nil)) (by show 2 ≤ 100000; decide)) fun p H1 np e1 hp => ?_
    exact k p _ H1 hnm np e1 hp
end
end Lm

namespace Lm
open PySem L2 Evl RZ
section
variable {P : Program} {w : World} {K : PySem.W.Frag} {mg : Str → Option Value} {base : Heap} {f : Addr} {fd : FuncData}
theorem mkRl {CR : Addr} {H : Hp} {a b : Addr} {xs : List V} {l : List (Addr × Str × List Str)} {wy nm : Str} {i : Nat} {R : Addr → Hp → Prop} {E : XK} (ha : SeqAt H a xs) (hR : RowsZ H xs l) (hf : FsOk (fsOf l)) (hb : SeqAt H b [.str wy, .str nm]) (hw : wy ∈ ways) (hi : ((fsOf l).map fun z => z.1)[i]? = some nm)
    (k : ∀ x H', H x = none → Same H H' → RlAt CR H' x (fsOf l) wy i → R x H') :
    ∀ x dx, H x = none → H dx = none → dx ≠ x → spRlInit CR (.ref x :: ([.ref a, .ref b] ++ [])) (upd (upd H dx (.own x)) x (.ins CR dx [])) (fun v H2 => v = .non ∧ R x H2) E := by
  intro x dx nx ndx nex
  have s0 : Same H (upd (upd H dx (.own x)) x (.ins CR dx [])) := fun b o e => by
    rw [upd_ne (ne_of_none e nx), upd_ne (ne_of_none e ndx)]
    exact e
  exact ⟨x, dx, a, b, xs, l, wy, nm, i, H, rfl, upd_same, nx, s0, ha, hR, hf, hb, hw, hi, fun H' h' hk => ⟨rfl, k x H' nx (Same.kpi1 nx s0 hk) h'⟩⟩
/-- a rule that is written in the code -/
def spRlStat (CR : Addr) (fs : List (Str × List Str)) (wy : Str) (i : Nat) : Sp := fun vs H Q _ => vs = [] ∧ ∀ a H', H a = none → Same H H' → RlAt CR H' a fs wy i → Q (.ref a) H'
theorem stat_go {CR : Addr} {σ : L2.St} {H : Hp} {D : Ends} {t1 t2 : TA} {nm wy : Str} {r : List Str} (h1 : EvA t1 σ H ((nm :: r).map V.str)) (h2 : ∀ H', Ex H H' → EvA t2 σ H' [.str wy, .str nm]) (hr : r.length ≤ 100) (hf : FsOk [(nm, r)]) (hw : wy ∈ ways) (k : ∀ a H', H a = none → Same H H' → RlAt CR H' a [(nm, r)] wy 0 → D.rt (.ref a) H') :
    tRet (tMake CR (spRlInit CR) [] E0 (tCons (tLst (tCons (tTup t1) tNil)) (tCons (tTup t2) tNil))) D σ H := by
  unfold tRet tMake tCons tLst tNil
  dsimp only
  refine eu_tup h1 (by show (r.map V.str).length + 1 ≤ 100000; rw [List.length_map]; omega) H (Ex.refl _) _ fun p H1 np e1 hp => ?_
  refine ⟨sz_of (by show 1 ≤ 100000; decide), fun q nq => ?_⟩
  have e2 : Ex H1 (upd H1 q (.lst [.ref p])) := Ex.new nq
  have hq : (upd H1 q (.lst [.ref p])) q = some (.lst [.ref p]) := upd_same
  generalize upd H1 q (.lst [.ref p]) = H2 at e2 hq ⊢
  refine eu_tup (h2 H2 (Ex.trans e1 e2)) (by show 2 ≤ 100000; decide) H2 (Ex.refl _) _ fun b H3 nb e3 hb => ?_
  have e12 := Ex.trans e1 e2
  exact mkRl (l := [(p, nm, r)]) (R := fun x H' => D.rt (.ref x) H') (.inl (e3 _ _ hq)) ⟨rfl, fun z hz => by
    rw [List.mem_singleton] at hz
    subst hz
    exact .inr (e3 _ _ (e2 _ _ hp))⟩ hf (.inr hb) hw rfl fun x H' nx e hx => k x H' (fresh_back (Ex.trans e12 e3) nx) (Same.trans (Ex.trans e12 e3) e) hx
theorem fs1 {nm : Str} {r : List Str} (h : FldOk nm r) : FsOk [(nm, r)] := ⟨by show 0 < 1; decide, by show 1 ≤ 3; decide, fun z hz => by
  rw [List.mem_singleton] at hz
  subst hz
  exact h, by simp⟩
def rFar : List Str := ["raise", "no", "least", "raise", "raise", "exact"]
def rLast : List Str := ["last", "last", "least", "last", "last", "exact"]
def rLater : List Str := ["last", "last", "least", "later", "later", "exact"]
def rRow : List Str := ["row", "no", "least", "raise", "raise", "exact"]
def fldB (nm : Str) (r : List Str) : Bool := isW nm && r.length == 6 && (r.zip cols).all fun z => decide (z.1 ∈ z.2)
theorem fldB_ok {nm : Str} {r : List Str} (h : fldB nm r = true) : FldOk nm r := by
  unfold fldB at h
  rw [Bool.and_eq_true, Bool.and_eq_true] at h
  obtain ⟨⟨h1, h2⟩, h3⟩ := h
  refine ⟨h1, by simpa using h2, fun i w c hi hc => ?_⟩
  have := List.all_eq_true.mp h3 (w, c) (List.mem_of_getElem? (i := i) (by rw [List.getElem?_zip_eq_some]; exact ⟨hi, hc⟩))
  simpa using this
theorem okFar : FldOk "far" rFar := fldB_ok (by decide +kernel)
theorem okLate : FldOk "late" rLast := fldB_ok (by decide +kernel)
theorem okLater : FldOk "late" rLater := fldB_ok (by decide +kernel)
theorem okRow : FldOk "row" rRow := fldB_ok (by decide +kernel)
end
end Lm

namespace Lm
open PySem L2 Evl RZ
/-! ### rows as data -/
def dRow (z : Str × List Str) : PyData := .tuple ((z.1 :: z.2).map PyData.str)
def dRows (fs : List (Str × List Str)) : PyData := .tuple (fs.map dRow)
theorem cols_len : cols.length = 6 := by decide +kernel
theorem cols_w : ∀ c ∈ cols, ∀ w ∈ c, isW w = true := by decide +kernel
theorem fld_w {nm : Str} {r : List Str} (h : FldOk nm r) : ∀ x ∈ nm :: r, isW x = true := by
  intro x hx
  rcases List.mem_cons.mp hx with e | hx
  · rw [e]
    exact h.wd
  · obtain ⟨i, hi, rfl⟩ := List.mem_iff_getElem.mp hx
    have hl := h.len
    have hc : i < cols.length := by rw [cols_len]; omega
    exact cols_w _ (List.getElem_mem hc) _ (h.ok i _ _ (List.getElem?_eq_getElem hi) (List.getElem?_eq_getElem hc))
section
variable {K : PySem.W.Frag} {H : Hp}
theorem dpAll_rows : ∀ (fs : List (Str × List Str)) (ts : List Addr), ts.length = fs.length → (∀ (j : Nat) z u, fs[j]? = some z → ts[j]? = some u → H u = some (.tup ((z.1 :: z.2).map V.str))) → DpAll K H (ts.map V.ref) (fs.map dRow)
  | [], [], _, _ => .nil
  | [], _ :: _, h, _ => nomatch h
  | _ :: _, [], h, _ => nomatch h
  | z :: r, u :: t, h, k => .cons (.tup (SqT.of (k 0 z u rfl rfl)) (dpAll_strs _)) (dpAll_rows r t (by simpa using h) fun j z' u' h1 h2 => k (j + 1) z' u' h1 h2)
theorem eqvAll_rows : ∀ fs gs : List (Str × List Str), PyData.eqvAll (fs.map dRow) (gs.map dRow) = decide (fs = gs)
  | [], [] => rfl
  | [], _ :: _ => rfl
  | _ :: _, [] => rfl
  | z :: r, y :: t => by
    show (PyData.eqv (dRow z) (dRow y) && PyData.eqvAll (r.map dRow) (t.map dRow)) = decide (z :: r = y :: t)
    rw [eqvAll_rows r t]
    unfold dRow
    rw [eqv_strs]
    obtain ⟨a, b⟩ := z
    obtain ⟨c, d⟩ := y
    by_cases h1 : a = c <;> by_cases h2 : b = d <;> by_cases h3 : r = t <;> simp [h1, h2, h3]
theorem eqv_rows (fs gs : List (Str × List Str)) : PyData.eqv (dRows fs) (dRows gs) = decide (fs = gs) := eqvAll_rows fs gs
theorem lay_rows : ∀ fs : List (Str × List Str), (∀ z ∈ fs, FldOk z.1 z.2) → PyData.canLayAll0 (fs.map dRow) = true
  | [], _ => rfl
  | z :: r, h => by
    show (PyData.canLayAll0 ((z.1 :: z.2).map PyData.str) && PyData.canLayAll0 (r.map dRow)) = true
    rw [lay_strs _ (fld_w (h z (by simp))), lay_rows r fun y hy => h y (by simp [hy])]
    rfl
theorem depth_rows : ∀ fs : List (Str × List Str), PyData.depthAll (fs.map dRow) ≤ 1
  | [] => by show 0 ≤ 1; omega
  | z :: r => by
    show max (PyData.depthAll ((z.1 :: z.2).map PyData.str) + 1) (PyData.depthAll (r.map dRow)) ≤ 1
    rw [depth_strs]
    have := depth_rows r
    omega
theorem shaped_rows {fs : List (Str × List Str)} (h : ∀ z ∈ fs, FldOk z.1 z.2) : PySem.SeqAt.shaped (dRows fs) = true := by
  show (PyData.canLayAll0 (fs.map dRow) && decide (PyData.depthAll (fs.map dRow) + 1 ≤ 64)) = true
  rw [lay_rows fs h, decide_eq_true (by have := depth_rows fs; omega)]
  rfl
end
structure RlIsi (K : PySem.W.Frag) (mg : Str → Option Value) (C : Addr) : Prop where
  g_Rule : mg "Rule" = some (.ref C)
  ha : PySem.W.findIn K (.ref C) "__class__" = some (some (.builtin "object.__class__"))
  hn : PySem.W.specialIn K (.builtin "object.__class__") "__get__" = some (some (.builtin "getset_descriptor.__get__"))
  htk : PySem.W.takesIn K (.builtin "object.__class__") = some true
  hm : PySem.W.mroIn K C (.type "object") = some true
  ko : PySem.W.kitOne K (.ref C) (.ref C) = some true
section
variable {P : Program} {w : World} {K : PySem.W.Frag} {mg : Str → Option Value} {base : Heap} {f : Addr} {fd : FuncData}
/-- a == y: any object -/
def spRlEqA (K : PySem.W.Frag) (C : Addr) : Sp := fun vs H Q _ => ∃ (a : Addr) (y : V) (fs : List (Str × List Str)) (wy : Str) (i : Nat), vs = [.ref a, y] ∧ RlAt C H a fs wy i ∧
  ((∃ (b : Addr) (gs : List (Str × List Str)) (wz : Str) (j : Nat), y = .ref b ∧ RlAt C H b gs wz j ∧ Q (.bl (decide (fs = gs ∧ wy = wz ∧ i = j))) H) ∨ ∃ t : Value, TyX K H y t ∧ PySem.W.kitOne K t (.ref C) = some false ∧ Q (.bl false) H)
abbrev s_Rule_eq : Stmt := inClass (top 13) 10
theorem sc_Rule_eq : FnScope ["self", "other"] ["self", "other"] (defScope s_Rule_eq) := ⟨rfl, rfl, rfl, by decide +kernel, rfl, by decide +kernel, by decide +kernel⟩
theorem ok_rl_eqA {C : Addr} (F : L2.Fun K "__eq__" "Rule.__eq__" s_Rule_eq f fd) (T : Blt mg) (W : RlTxt K C) (T' : RlIsi K mg C) : FnOk P w K mg base CX0 1 f fd ["self", "other"] (spRlEqA K C) := by
  refine F.ok sc_Rule_eq (fun vs H Q E h => ?_) (fun cdv A outer s H vs Q E hr h => ?_)
  · obtain ⟨a, y, fs, wy, i, rfl, _⟩ := h
    rfl
  · obtain ⟨a, y, fs, wy, i, rfl, ⟨⟨dx, t, ts, h1, h2, h3, h4⟩, h5, h6, h7⟩, k⟩ := h
    refine ⟨_, (pss_one (ps_ret (pe_and (pe_callB call_isi (by rfl) T.b_isinstance (by decide +kernel) (pa_cons (pv 1) (pa_cons (pe_glob (v := .ref _) rfl T'.g_Rule rfl) pa_nil))) (pe_and (pe_cmpR (op_eqD hr.units) (pe_fld (pv 0) rfl) (pe_fld (pv 1) rfl) (nomark _)) (pe_and (pe_cmpR op_eq (pe_fld (pv 0) rfl) (pe_fld (pv 1) rfl) (nomark _)) (pe_one (pe_cmpR op_eq (pe_fld (pv 0) rfl) (pe_fld (pv 1) rfl) (nomark _)))))))), ?_⟩
    rcases k with ⟨b, gs, wz, j, rfl, ⟨⟨dy, t', ts', g1, g2, g3, g4⟩, g5, g6, g7⟩, k⟩ | ⟨t', ty, hk, k⟩
    · refine ⟨_, rfl, _, _, _, _, true, rfl, .own C, .base (.ins g1 W.cl T'.ha T'.hn T'.htk T'.hm), T'.ko, true, rfl, ?_⟩
      refine ⟨_, rfl, a, C, dx, _, _, rfl, h1, W.cl, W.nR, rl_rows _ _ _, _, rfl, b, C, dy, _, _, rfl, g1, W.cl, W.nR, rl_rows _ _ _, _, _, .tup (SqT.of h2) (dpAll_rows fs ts h3 h4), .tup (SqT.of g2) (dpAll_rows gs ts' g3 g4), shaped_rows h5.ok, shaped_rows g5.ok, ?_⟩
      refine ⟨_, rfl, ite2 (fun hn => ?_) (fun hn => ?_)⟩
      · have hn : fs = gs := of_decide_eq_true ((eqv_rows fs gs).symm.trans hn)
        refine ⟨_, rfl, a, C, dx, _, _, rfl, h1, W.cl, W.nW, rl_way _ _ _, _, rfl, b, C, dy, _, _, rfl, g1, W.cl, W.nW, rl_way _ _ _, rfl, _, rfl, ite2 (fun hm => ?_) (fun hm => ?_)⟩
        · have hm : wy = wz := V.str.inj (of_decide_eq_true hm)
          refine ⟨_, rfl, a, C, dx, _, _, rfl, h1, W.cl, W.nA, rl_at _ _ _, _, rfl, b, C, dy, _, _, rfl, g1, W.cl, W.nA, rl_at _ _ _, rfl, ?_⟩
          have e : decide (fs = gs ∧ wy = wz ∧ i = j) = decide (V.int (i : Nat) = V.int (j : Nat)) := by
            by_cases q : i = j
            · simp [hn, hm, q]
            · have : ¬ V.int (i : Nat) = V.int (j : Nat) := fun z => q (by have := V.int.inj z; omega)
              simp [hn, hm, q, this]
          rw [e] at k
          exact k
        · have hm : ¬ wy = wz := fun z => hm (decide_eq_true (congrArg V.str z))
          have e : decide (fs = gs ∧ wy = wz ∧ i = j) = false := by simp [hm]
          rw [e] at k
          exact k
      · have hn : ¬ fs = gs := fun z => hn ((eqv_rows fs gs).trans (decide_eq_true z))
        have e : decide (fs = gs ∧ wy = wz ∧ i = j) = false := by simp [hn]
        rw [e] at k
        exact k
    · exact ⟨_, rfl, y, _, _, _, false, rfl, .own C, ty, hk, false, rfl, k⟩
end
end Lm

namespace Lm
open PySem L2 Evl RZ
/-- tuples of texts -/
def TupsAt (H : Hp) (xs : List V) (cs : List (List Str)) : Prop := xs.length = cs.length ∧ ∀ (i : Nat) c, cs[i]? = some c → ∃ p : Addr, xs[i]? = some (.ref p) ∧ H p = some (.tup (c.map V.str))
theorem TupsAt.same {H H' : Hp} {xs : List V} {cs : List (List Str)} (h : TupsAt H xs cs) (e : Same H H') : TupsAt H' xs cs := ⟨h.1, fun i c hc => let ⟨p, h1, h2⟩ := h.2 i c hc; ⟨p, h1, e _ _ h2⟩⟩
theorem TupsAt.nil {H : Hp} : TupsAt H [] [] := ⟨rfl, fun i c h => nomatch h⟩
theorem TupsAt.cons {H : Hp} {p : Addr} {c : List Str} {xs : List V} {cs : List (List Str)} (h : H p = some (.tup (c.map V.str))) (k : TupsAt H xs cs) : TupsAt H (.ref p :: xs) (c :: cs) := ⟨by simp [k.1], fun i d hd => by
  cases i with
  | zero => cases hd; exact ⟨p, rfl, h⟩
  | succ i => exact k.2 i d hd⟩
theorem TupsAt.app {H : Hp} {xs ys : List V} {cs ds : List (List Str)} (h : TupsAt H xs cs) (k : TupsAt H ys ds) : TupsAt H (xs ++ ys) (cs ++ ds) := ⟨by simp [h.1, k.1], fun i d hd => by
  rcases Nat.lt_or_ge i cs.length with q | q
  · rw [List.getElem?_append_left q] at hd
    rw [List.getElem?_append_left (by rw [h.1]; exact q)]
    exact h.2 i d hd
  · rw [List.getElem?_append_right q] at hd
    rw [List.getElem?_append_right (by rw [h.1]; exact q), h.1]
    exact k.2 _ d hd⟩
def EvLT (te : TE) (σ : L2.St) (H : Hp) (cs : List (List Str)) : Prop := ∀ H1, Ex H H1 → ∀ Q : VK, (∀ p xs H2, H1 p = none → Ex H1 H2 → H2 p = some (.lst xs) → TupsAt H2 xs cs → Q (.ref p) H2) → te σ H1 Q
def EvRT (te : TE) (σ : L2.St) (H : Hp) (cs : List (List Str)) : Prop := ∀ H1, Ex H H1 → ∀ Q : VK, (∀ p xs H2, Ex H1 H2 → H2 p = some (.lst xs) → TupsAt H2 xs cs → Q (.ref p) H2) → te σ H1 Q
def EvAT (ta : TA) (σ : L2.St) (H : Hp) (cs : List (List Str)) : Prop := ∀ H1, Ex H H1 → ∀ Q : List V → Hp → Prop, (∀ xs H2, Ex H1 H2 → TupsAt H2 xs cs → Q xs H2) → ta σ H1 Q
section
variable {σ : L2.St} {H : Hp} {te tf : TE} {ta tr : TA} {c : List Str} {cs ds : List (List Str)}
theorem EvLT.r (h : EvLT te σ H cs) : EvRT te σ H cs := fun H1 e Q q => h H1 e Q fun p xs H2 _ e2 h1 h2 => q p xs H2 e2 h1 h2
theorem ert_var {p : Addr} {xs : List V} (h : Ev te σ H (.ref p)) (hp : H p = some (.lst xs)) (k : TupsAt H xs cs) : EvRT te σ H cs := fun H1 e Q q => h H1 e _ fun H2 e2 => q p xs H2 e2 (Ex.trans e e2 _ _ hp) (k.same (Ex.trans e e2))
theorem eat_nil : EvAT tNil σ H [] := fun H1 _ Q q => q [] H1 (Ex.refl _) TupsAt.nil
theorem eat_cons (h : EvU te σ H (c.map V.str)) (k : EvAT tr σ H cs) : EvAT (tCons te tr) σ H (c :: cs) := fun H1 e Q q => h H1 e _ fun p H2 _ e2 hp => k H2 (Ex.trans e e2) _ fun xs H3 e3 hx => q _ H3 (Ex.trans e2 e3) (TupsAt.cons (e3 _ _ hp) hx)
theorem elt_lst (h : EvAT ta σ H cs) (hl : cs.length ≤ 1000) : EvLT (tLst ta) σ H cs := fun H1 e Q q => h H1 e _ fun xs H2 e2 hx => ⟨sz_of (by rw [hx.1]; omega), fun p np => q p xs _ (fresh_back e2 np) (Ex.trans e2 (Ex.new np)) upd_same (hx.same (Ex.new np))⟩
theorem q_asgLT {D : Ends} {tz : TS} {i : Nat} (h : EvLT te σ H cs) (k : ∀ p xs H1, H p = none → Ex H H1 → H1 p = some (.lst xs) → TupsAt H1 xs cs → tz D (σ.set i (some (.ref p))) H1) : tSeq (tAsg te (gName i)) tz D σ H := h H (Ex.refl _) _ k
theorem s_retLT {D : Ends} (h : EvLT te σ H cs) (k : ∀ p xs H1, H p = none → Ex H H1 → H1 p = some (.lst xs) → TupsAt H1 xs cs → D.rt (.ref p) H1) : tRet te D σ H := h H (Ex.refl _) _ k
theorem elt_cat (h : EvRT te σ H cs) (k : EvRT tf σ H ds) (hl : cs.length + ds.length ≤ 1000) : EvLT (tOp rCat te tf) σ H (cs ++ ds) := fun H1 e Q q => h H1 e _ fun p xs H2 e2 hp hx => k H2 (Ex.trans e e2) _ fun p' ys H3 e3 hp' hy =>
  ⟨p, p', xs, ys, rfl, rfl, e3 _ _ hp, hp', sz_of (by rw [hx.1, hy.1]; omega), fun t nt => q t _ _ (fresh_back (Ex.trans e2 e3) nt) (Ex.trans (Ex.trans e2 e3) (Ex.new nt)) upd_same (((hx.same e3).app hy).same (Ex.new nt))⟩
theorem elt_rep2 (h : EvRT te σ H [c]) : EvLT (tOp rRep te (tC (.int 2))) σ H [c, c] := fun H1 e Q q => h H1 e _ fun p xs H2 e2 hp hx =>
  ⟨p, 2, xs, rfl, rfl, hp, by omega, by omega, sz_of (by rw [hx.1]; show 2 ≤ 100000; decide), fun t nt => q t _ _ (fresh_back e2 nt) (Ex.trans e2 (Ex.new nt)) upd_same (by
    have : (List.replicate (2 : Int).toNat xs).flatten = xs ++ (xs ++ []) := rfl
    rw [this, List.append_nil]
    exact ((hx.app hx).same (Ex.new nt)))⟩
end
section
variable {P : Program} {w : World} {K : PySem.W.Frag} {mg : Str → Option Value} {base : Heap} {f : Addr} {fd : FuncData}
def spParts : Sp := fun vs H Q _ => vs = [] ∧ ∀ p xs H', H p = none → Same H H' → H' p = some (.lst xs) → TupsAt H' xs cols → Q (.ref p) H'
abbrev s_parts : Stmt := top 27
theorem sc_parts : FnScope ["_law_found"] [] (defScope s_parts) := ⟨rfl, rfl, rfl, by decide +kernel, rfl, by decide +kernel, by decide +kernel⟩
theorem ok_parts (F : L2.Fun K "_law_parts" "_law_parts" s_parts f fd) : FnOk P w K mg base CX0 1 f fd [] spParts := by
  refine F.ok sc_parts (fun vs H Q E h => ?_) (fun cdv A outer s H vs Q E hr h => ?_)
  · obtain ⟨rfl, _⟩ := h
    rfl
  · obtain ⟨rfl, k⟩ := h
    refine ⟨_, (pss_cons (ps_set (i := 0) sc_parts.nd rfl (by first | exact Or.inl rfl | exact Or.inr rfl) (pe_lst (pa_cons (pe_tup (pa_cons pe_str (pa_cons pe_str (pa_cons pe_str (pa_cons pe_str pa_nil))))) (pa_cons (pe_tup (pa_cons pe_str (pa_cons pe_str (pa_cons pe_str (pa_cons pe_str pa_nil))))) (pa_cons (pe_tup (pa_cons pe_str (pa_cons pe_str pa_nil))) pa_nil)))))
        (pss_one (ps_ret (pe_op op_cat (pe_op op_cat (pv 0) (pe_op op_rep (pe_lst (pa_cons (pe_tup (pa_cons pe_str (pa_cons pe_str (pa_cons pe_str (pa_cons pe_str pa_nil))))) pa_nil)) pe_int)) (pe_lst (pa_cons (pe_tup (pa_cons pe_str (pa_cons pe_str pa_nil))) pa_nil)))))), ?_⟩
    have c4 : ∀ {σ : L2.St} {H : Hp} (a b c d : Str), EvU (tTup (tCons (tC (.str a)) (tCons (tC (.str b)) (tCons (tC (.str c)) (tCons (tC (.str d)) tNil))))) σ H ([a, b, c, d].map V.str) := fun a b c d => eu_tup (ea_cons ev_c (ea_cons ev_c (ea_cons ev_c (ea_cons ev_c ea_nil)))) (by show 4 ≤ 100000; decide)
    have c2 : ∀ {σ : L2.St} {H : Hp} (a b : Str), EvU (tTup (tCons (tC (.str a)) (tCons (tC (.str b)) tNil))) σ H ([a, b].map V.str) := fun a b => eu_tup (ea_cons ev_c (ea_cons ev_c ea_nil)) (by show 2 ≤ 100000; decide)
    refine q_asgLT (elt_lst (eat_cons (c4 "no" "last" "raise" "row") (eat_cons (c4 "no" "last" "raise" "lower") (eat_cons (c2 "no" "least") eat_nil))) (by show 3 ≤ 1000; decide)) fun p xs H1 np e1 hp hx => ?_
    exact s_retLT (elt_cat (elt_cat (ert_var (ev_var rfl) hp hx) (elt_rep2 (elt_lst (eat_cons (c4 "no" "last" "raise" "later") eat_nil) (by show 1 ≤ 1000; decide)).r).r (by show 3 + 2 ≤ 1000; decide)).r (elt_lst (eat_cons (c2 "exact" "floored") eat_nil) (by show 1 ≤ 1000; decide)).r (by show 5 + 1 ≤ 1000; decide)) fun t ys H2 nt e2 ht hy => k t ys H2 (fresh_back e1 nt) (Same.trans e1 e2) ht hy
end
end Lm

namespace Lm
open PySem L2 Evl RZ
/-! ### comprehensions that draw -/
theorem StAt.neL {H : Hp} {st c : Addr} (S : StAt H st c) : ∃ xs, H st = some (.lst xs) := let ⟨⟨_, _, _, h⟩, _, _⟩ := S; ⟨_, h⟩
def KpS (st D : Addr) (H H' : Hp) : Prop := ∀ b o, H b = some o → (b = st ∨ b = D → ∀ xs, o ≠ .lst xs) → H' b = some o
theorem kps_of {st D : Addr} {H H' : Hp} {xs : List V} (e : Kp st H H') (h : H st = some (.lst xs)) : KpS st D H H' := fun b o hb hn => e b o (fun z => by
  subst z
  rw [h] at hb
  exact hn (.inl rfl) _ (Option.some.inj hb).symm) hb
theorem kps_mut {st D : Addr} {H : Hp} {xs : List V} {o' : HO} (h : H D = some (.lst xs)) : KpS st D H (upd H D o') := fun b o hb hn => by
  rw [upd_ne]
  · exact hb
  · intro z
    subst z
    rw [h] at hb
    exact hn (.inr rfl) _ (Option.some.inj hb).symm
theorem KpS.lst {st D : Addr} {H H' : Hp} {l : Addr} {o : HO} (e : KpS st D H H') (h1 : l ≠ st) (h2 : l ≠ D) (h : H l = some o) : H' l = some o := e _ _ h fun z => by
  rcases z with z | z
  · exact absurd z h1
  · exact absurd z h2
theorem lc_drawR {st c D : Addr} {σ : L2.St} {te : TE} {j n : Nat} {H1 : Hp} {Qd : Hp → Prop} (Pr : Nat → V → Hp → Prop) (S0 : StAt H1 st c) (nD : H1 D = none) (hn : n ≤ 1000) (stab : ∀ i v H H', Pr i v H → KpS st D H H' → Pr i v H')
    (turn : ∀ i H', i < n → StAt H' st c → Kp st H1 H' → (∃ acc, H' D = some (.lst acc)) → ∀ Q : VK, (∀ v H2, Pr i v H2 → StAt H2 st c → Kp st H' H2 → Q v H2) → te ((wipe σ [j]).set j (some (.int (i : Nat)))) H' Q)
    (done : ∀ vs H', vs.length = n → (∀ i v, vs[i]? = some v → Pr i v H') → StAt H' st c → Kp st H1 H' → H' D = some (.lst vs) → Qd H') :
    ∃ W : Nat → Nat → Hp → Prop, (∃ m, W 0 m (upd H1 D (.lst []))) ∧ ∀ i m H, W i m H → ((Itr 0 n).stop i H ∧ Qd H) ∨ ((Itr 0 n).go i H ∧ ∃ Nx : Hp → Prop, (∀ H', Nx H' → ∃ m', m' < m ∧ W (i + 1) m' H') ∧ ∀ x H', (Itr 0 n).yld i H x H' → gName j x (wipe σ [j]) H' fun σ2 H2 => wipe σ2 [j] = wipe σ [j] ∧ tYes σ2 H2 fun b H3 =>
      if b = true then te σ2 H3 fun y H4 => ∃ acc, H4 D = some (.lst acc) ∧ acc.length < sizeLine ∧ Nx (upd H4 D (.lst (acc ++ [y]))) else Nx H3) := by
  have hDs := (S0.of_new nD).1
  have hDc := (S0.of_new nD).2
  refine lc_range (lo := 0) (fun i H' => StAt H' st c ∧ Kp st H1 H' ∧ ∃ vs : List V, vs.length = i ∧ H' D = some (.lst vs) ∧ ∀ k v, vs[k]? = some v → Pr k v H') ⟨S0.same (Same.upd' nD), Kp.of (Same.upd' nD), [], rfl, upd_same, fun k v h => by simp at h⟩ ?_ ?_
  · rintro i H' hi ⟨S', e, vs, hl, hD, hv⟩
    have z : (0 : Int) + (i : Int) = (i : Int) := by omega
    rw [z]
    refine ⟨wipe1 σ j _, ?_⟩
    obtain ⟨xs1, hst1⟩ := S'.neL
    refine turn i H' hi S' e ⟨_, hD⟩ _ fun v H2 hp S2 e2 => ?_
    have hD2 := e2 _ _ hDs hD
    refine ⟨vs, hD2, small1000 (by omega), S2.mut hDs hDc, Kp.mut (e.trans e2) nD, vs ++ [v], by simp [hl], upd_same, fun k x hx => ?_⟩
    have km : KpS st D H2 (upd H2 D (.lst (vs ++ [v]))) := kps_mut hD2
    rcases Nat.lt_or_ge k vs.length with hk | hk
    · rw [List.getElem?_append_left hk] at hx
      exact stab _ _ _ _ (stab _ _ _ _ (hv k x hx) (kps_of e2 hst1)) km
    · rw [List.getElem?_append_right hk] at hx
      cases q : k - vs.length with
      | zero =>
        rw [q] at hx
        cases hx
        have : k = i := by omega
        rw [this]
        exact stab _ _ _ _ hp km
      | succ m => rw [q] at hx; simp at hx
  · rintro H' ⟨S', e, vs, hl, hD, hv⟩
    exact done vs H' hl hv S' e hD
theorem lc_drawL {K : PySem.W.Frag} {st c D a : Addr} {xs : List V} {σ : L2.St} {te : TE} {j : Nat} {H1 : Hp} {Qd : Hp → Prop} (Pr : Nat → V → Hp → Prop) (S0 : StAt H1 st c) (nD : H1 D = none) (has : a ≠ st) (ha : H1 a = some (.lst xs)) (hn : xs.length ≤ 1000) (stab : ∀ i v H H', Pr i v H → KpS st D H H' → Pr i v H')
    (turn : ∀ i x H', xs[i]? = some x → StAt H' st c → Kp st H1 H' → (∃ acc, H' D = some (.lst acc)) → ∀ Q : VK, (∀ v H2, Pr i v H2 → StAt H2 st c → Kp st H' H2 → Q v H2) → te ((wipe σ [j]).set j (some x)) H' Q)
    (done : ∀ vs H', vs.length = xs.length → (∀ i v, vs[i]? = some v → Pr i v H') → StAt H' st c → Kp st H1 H' → H' D = some (.lst vs) → Qd H') :
    ∃ W : Nat → Nat → Hp → Prop, (∃ m, W 0 m (upd H1 D (.lst []))) ∧ ∀ i m H, W i m H → ((Itl K a).stop i H ∧ Qd H) ∨ ((Itl K a).go i H ∧ ∃ Nx : Hp → Prop, (∀ H', Nx H' → ∃ m', m' < m ∧ W (i + 1) m' H') ∧ ∀ x H', (Itl K a).yld i H x H' → gName j x (wipe σ [j]) H' fun σ2 H2 => wipe σ2 [j] = wipe σ [j] ∧ tYes σ2 H2 fun b H3 =>
      if b = true then te σ2 H3 fun y H4 => ∃ acc, H4 D = some (.lst acc) ∧ acc.length < sizeLine ∧ Nx (upd H4 D (.lst (acc ++ [y]))) else Nx H3) := by
  have hDs := (S0.of_new nD).1
  have hDc := (S0.of_new nD).2
  refine lc_list (K := K) (a := a) (xs := xs) (fun i H' => StAt H' st c ∧ Kp st H1 H' ∧ ∃ vs : List V, vs.length = i ∧ H' D = some (.lst vs) ∧ ∀ k v, vs[k]? = some v → Pr k v H') ⟨S0.same (Same.upd' nD), Kp.of (Same.upd' nD), [], rfl, upd_same, fun k v h => by simp at h⟩ (fun i H' _ p => SqL.of (p.2.1 _ _ has ha)) ?_ ?_
  · rintro i x H' hx ⟨S', e, vs, hl, hD, hv⟩
    have hi := (List.getElem?_eq_some_iff.mp hx).1
    refine ⟨wipe1 σ j _, ?_⟩
    obtain ⟨xs1, hst1⟩ := S'.neL
    refine turn i x H' hx S' e ⟨_, hD⟩ _ fun v H2 hp S2 e2 => ?_
    have hD2 := e2 _ _ hDs hD
    refine ⟨vs, hD2, small1000 (by omega), S2.mut hDs hDc, Kp.mut (e.trans e2) nD, vs ++ [v], by simp [hl], upd_same, fun k y hy => ?_⟩
    have km : KpS st D H2 (upd H2 D (.lst (vs ++ [v]))) := kps_mut hD2
    rcases Nat.lt_or_ge k vs.length with hk | hk
    · rw [List.getElem?_append_left hk] at hy
      exact stab _ _ _ _ (stab _ _ _ _ (hv k y hy) (kps_of e2 hst1)) km
    · rw [List.getElem?_append_right hk] at hy
      cases q : k - vs.length with
      | zero =>
        rw [q] at hy
        cases hy
        have : k = i := by omega
        rw [this]
        exact stab _ _ _ _ hp km
      | succ m => rw [q] at hy; simp at hy
  · rintro H' ⟨S', e, vs, hl, hD, hv⟩
    exact done vs H' hl hv S' e hD

def untxt (v : V) : Str := match v with
  | .str w => w
  | _ => ""
section
variable {P : Program} {w : World} {K : PySem.W.Frag} {mg : Str → Option Value} {base : Heap} {f : Addr} {fd : FuncData}
def spField : Sp := fun vs H Q _ => ∃ (st c : Addr) (nm : Str), vs = [.ref st, .str nm] ∧ StAt H st c ∧ isW nm = true ∧ ∀ p r H', H p = none → StAt H' st c → Kp st H H' → H' p = some (.tup ((nm :: r).map V.str)) → FldOk nm r → Q (.ref p) H'
abbrev s_field : Stmt := top 28
theorem sc_field : FnScope ["_law_state", "_law_called", "_law_some"] ["_law_state", "_law_called"] (defScope s_field) := ⟨rfl, rfl, rfl, by decide +kernel, rfl, by decide +kernel, by decide +kernel⟩
theorem fld_of {nm : Str} {vs : List V} (h : isW nm = true) (hl : vs.length = 6) (hv : ∀ (i : Nat) v, vs[i]? = some v → ∃ w c, v = .str w ∧ cols[i]? = some c ∧ w ∈ c) : vs = (vs.map untxt).map V.str ∧ FldOk nm (vs.map untxt) := by
  refine ⟨?_, h, by rw [List.length_map, hl], fun i w c hw hc => ?_⟩
  · rw [List.map_map]
    refine (List.map_id vs).symm.trans (List.map_congr_left fun v hv' => ?_)
    obtain ⟨i, hi⟩ := List.mem_iff_getElem?.mp hv'
    obtain ⟨w, c, rfl, _⟩ := hv i v hi
    rfl
  · rw [List.getElem?_map] at hw
    cases hi : vs[i]? with
    | none => rw [hi] at hw; cases hw
    | some v =>
      rw [hi] at hw
      obtain ⟨w', c', rfl, hc', hm⟩ := hv i v hi
      cases hw
      rw [hc] at hc'
      cases hc'
      exact hm
theorem sr_cat {rd : List V → Hp → VK → Prop} {te tf : TE} {D : Ends} {σ : L2.St} {H : Hp} (h : te σ H fun v H1 => tf σ H1 fun y H2 => rCat v y H2 fun z H3 => rd [z] H3 D.rt) : tRet (tCB rd (tCons (tOp rCat te tf) tNil)) D σ H := h
theorem cols_pos : ∀ c ∈ cols, 0 < c.length ∧ c.length < 1073741824 := by decide +kernel
theorem ok_field {fP fO : Addr} {fdP fdO : FuncData} (F : L2.Fun K "_law_field" "_law_field" s_field f fd) (T : Blt mg) (D_parts : DefOk P w K mg base 1 "_law_parts" fP fdP [] spParts) (D_one : DefOk P w K mg base 3 "_law_one" fO fdO ["_law_state", "_law_things"] (spOneA K)) :
    FnOk P w K mg base CX0 4 f fd ["_law_state", "_law_called"] spField := by
  refine F.ok sc_field (fun vs H Q E h => ?_) (fun cdv A outer s H vs Q E hr h => ?_)
  · obtain ⟨st, c, nm, rfl, _⟩ := h
    rfl
  · obtain ⟨st, c, nm, rfl, S, hn, k⟩ := h
    refine ⟨_, (pss_one (ps_ret (pe_callTy call_tuple_of (by rfl) T.b_tuple (by decide +kernel) (by exact (pa_cons (pe_op op_cat (pe_lst (pa_cons (pv 1) pa_nil)) (pe_lc (own := [("_law_some", 2)]) (g := gName 2) (tt := tYes) (te := (tCall (spOneA K) [] E0 (tCons (tVar 0) (tCons (tVar 2) tNil)))) rfl sc_field.nd (pi_list (pe_d0 D_parts (hr.mono (by decide)))) (blkOk_by (own := [("_law_some", 2)]) (by kernel_rfl)) (fun _ _ _ _ _ => (pg_name (i := 2) sc_field.nd rfl (by first | exact Or.inl rfl | exact Or.inr rfl))) (fun _ _ _ _ _ => pts_nil) (fun _ _ _ _ _ => by exact (pe_d D_one (hr.mono (by decide)) (pa_cons (pv 0) (pa_cons (pv 2) pa_nil)))))) pa_nil))))), ?_⟩
    refine sr_cat ((el_lst (σ := [some (.ref st), some (.str nm), none]) (ta := tCons (tVar 1) tNil) (vs := [.str nm]) (ea_cons (ev_var rfl) ea_nil) (by show 1 ≤ 100000; decide)) H (Ex.refl _) _ fun l0 H1 n1 e1 h1 => ?_)
    refine ⟨rfl, fun a xs H2 na e2 ha hx => ⟨a, rfl, ⟨_, SqL.of ha⟩, fun D nD => ?_⟩⟩
    have e12 := Same.trans e1 e2
    have S2 := S.same e12
    obtain ⟨xs1, hst⟩ := S.neL
    have stL := e12 _ _ hst
    have has : a ≠ st := fun z => by
      rw [z] at na
      rw [e1 _ _ hst] at na
      cases na
    have hl0 : l0 ≠ st := fun z => by
      rw [z, hst] at n1
      cases n1
    have lx : xs.length = 6 := by rw [hx.1]; exact cols_len
    refine lc_drawL (K := K) (σ := [some (.ref st), some (.str nm), none]) (fun i v _ => ∃ w c, v = .str w ∧ cols[i]? = some c ∧ w ∈ c) S2 nD has ha (by omega) (fun i v _ _ h _ => h) (fun i x H' hxi S' e' _ Q' q' => ?_) fun vs H' hl hv S' e' hD => ?_
    · have hi := (List.getElem?_eq_some_iff.mp hxi).1
      have hc : cols[i]? = some (cols[i]'(by rw [cols_len]; omega)) := List.getElem?_eq_getElem _
      generalize cols[i]'(by rw [cols_len]; omega) = cc at hc
      obtain ⟨p, hp, hpt⟩ := hx.2 i cc hc
      rw [hxi] at hp
      cases hp
      have hps : p ≠ st := ne_of hpt stL (by intro z; cases z)
      have cp := cols_pos cc (List.mem_of_getElem? hc)
      exact ⟨_, rfl, _, rfl, st, c, p, cc.map V.str, rfl, S', hps, .inr (SqT.of (e' _ _ hps hpt)), by rw [List.length_map]; exact cp.1, by rw [List.length_map]; exact cp.2, fun v H3 hvm S3 e3 => by
        obtain ⟨w, hw, rfl⟩ := List.mem_map.mp hvm
        exact q' _ H3 ⟨w, cc, rfl, hc, hw⟩ S3 e3⟩
    · rw [lx] at hl
      obtain ⟨hvs, hf⟩ := fld_of hn hl hv
      have hl0' := e' _ _ hl0 (e2 _ _ h1)
      have eK : Kp st H H' := (Kp.of e12).trans e'
      refine ⟨l0, D, _, _, rfl, rfl, hl0', hD, sz_of (by rw [hl]; show 1 + 6 ≤ 100000; decide), fun q nq => ?_⟩
      have nqe : ∀ b o, H b = some o → ∃ o', H' b = some o' := fun b o hb => by
        by_cases hbs : b = st
        · subst hbs
          obtain ⟨ys, hys⟩ := S'.neL
          exact ⟨_, hys⟩
        · exact ⟨_, eK _ _ hbs hb⟩
      refine ⟨q, _, rfl, .inl ⟨SqL.of upd_same, fun t nt => k t (vs.map untxt) _ ?_ ((S'.same (Same.upd' nq)).same (Same.upd' nt)) ((eK.trans (Kp.of (Same.upd' nq))).trans (Kp.of (Same.upd' nt))) ?_ hf⟩⟩
      · cases hb : H t with
        | none => rfl
        | some o =>
          obtain ⟨o', ho'⟩ := nqe _ _ hb
          have := Same.upd' nq _ _ ho' (o := .lst ([V.str nm] ++ vs))
          rw [this] at nt
          cases nt
      · rw [upd_same, hvs]
        simp [untxt]
end
end Lm

namespace Lm
open PySem L2 Evl RZ
theorem kp_back {st c t : Addr} {H H' : Hp} (S : StAt H' st c) (k : Kp st H H') (n : H' t = none) : H t = none := by
  cases hb : H t with
  | none => rfl
  | some o =>
    by_cases hbs : t = st
    · subst hbs
      obtain ⟨ys, hys⟩ := S.neL
      rw [hys] at n
      cases n
    · rw [k _ _ hbs hb] at n
      cases n
theorem rows_of {H : Hp} : ∀ (ws : List Str) (vs : List V), vs.length = ws.length → (∀ (i : Nat) v, vs[i]? = some v → ∃ p nm r, v = .ref p ∧ ws[i]? = some nm ∧ H p = some (.tup ((nm :: r).map V.str)) ∧ FldOk nm r) → ∃ fs : List (Str × List Str), RowsT H vs fs ∧ fs.map (fun z => z.1) = ws ∧ ∀ z ∈ fs, FldOk z.1 z.2
  | [], [], _, _ => ⟨[], ⟨[], rfl, rfl, fun j z u h => nomatch h⟩, rfl, fun z h => nomatch h⟩
  | [], _ :: _, h, _ => nomatch h
  | _ :: _, [], h, _ => nomatch h
  | x :: ws, v :: vs, h, k => by
    obtain ⟨fs, ⟨ts, h1, h2, h3⟩, h4, h5⟩ := rows_of ws vs (by simpa using h) fun i u hu => k (i + 1) u hu
    obtain ⟨p, nm, r, rfl, hn, hp, hf⟩ := k 0 v rfl
    cases hn
    refine ⟨(x, r) :: fs, ⟨p :: ts, by rw [h1]; rfl, by simp [h2], fun j z u a b => ?_⟩, by rw [List.map_cons, h4], fun z hz => ?_⟩
    · cases j with
      | zero => cases a; cases b; exact hp
      | succ j => exact h3 j z u a b
    · rcases List.mem_cons.mp hz with e | hz
      · rw [e]; exact hf
      · exact h5 z hz
section
variable {P : Program} {w : World} {K : PySem.W.Frag} {mg : Str → Option Value} {base : Heap} {f : Addr} {fd : FuncData}
def spRule : Sp := fun vs H Q _ => ∃ (st c : Addr), vs = [.ref st] ∧ StAt H st c ∧ ∀ (t rp sp : Addr) (xs : List V) (fs : List (Str × List Str)) (wy nm : Str) (i : Nat) (H' : Hp), H t = none → StAt H' st c → Kp st H H' → H' t = some (.tup [.ref rp, .ref sp]) → H rp = none → H' rp = some (.lst xs) → RowsT H' xs fs → FsOk fs → H' sp = some (.tup [.str wy, .str nm]) → wy ∈ ways → (fs.map fun z => z.1)[i]? = some nm → (∀ x ∈ fs.map fun z => z.1, x ∈ allW) → Q (.ref t) H'
abbrev s_rule : Stmt := top 29
theorem sc_rule : FnScope ["_law_state", "_law_names", "_law_shown", "_law_called"] ["_law_state"] (defScope s_rule) := ⟨rfl, rfl, rfl, by decide +kernel, rfl, by decide +kernel, by decide +kernel⟩
theorem ok_rule {fT fW fO fF : Addr} {fdT fdW fdO fdF : FuncData} (F : L2.Fun K "_law_rule" "_law_rule" s_rule f fd) (D_take : DefOk P w K mg base 2 "_law_take" fT fdT ["_law_state", "_law_many"] spTake) (D_some_words : DefOk P w K mg base 3 "_law_some_words" fW fdW ["_law_state", "_law_many"] spSomeWA)
    (D_one : DefOk P w K mg base 3 "_law_one" fO fdO ["_law_state", "_law_things"] (spOneA K)) (D_field : DefOk P w K mg base 4 "_law_field" fF fdF ["_law_state", "_law_called"] spField) : FnOk P w K mg base CX0 5 f fd ["_law_state"] spRule := by
  refine F.ok sc_rule (fun vs H Q E h => ?_) (fun cdv A outer s H vs Q E hr h => ?_)
  · obtain ⟨st, c, rfl, _⟩ := h
    rfl
  · obtain ⟨st, c, rfl, S, k⟩ := h
    refine ⟨_, (pss_cons (ps_set (i := 1) sc_rule.nd rfl (by first | exact Or.inl rfl | exact Or.inr rfl) (pe_d D_some_words (hr.mono (by decide)) (pa_cons (pv 0) (pa_cons (pe_op op_add pe_int (pe_d D_take (hr.mono (by decide)) (pa_cons (pv 0) (pa_cons pe_int pa_nil)))) pa_nil))))
        (pss_cons (ps_set (i := 2) sc_rule.nd rfl (by first | exact Or.inl rfl | exact Or.inr rfl) (pe_tup (pa_cons (pe_d D_one (hr.mono (by decide)) (pa_cons (pv 0) (pa_cons (pe_tup (pa_cons pe_str (pa_cons pe_str (pa_cons pe_str pa_nil)))) pa_nil))) (pa_cons (pe_d D_one (hr.mono (by decide)) (pa_cons (pv 0) (pa_cons (pv 1) pa_nil))) pa_nil))))
        (pss_one (ps_ret (pe_tup (by exact (pa_cons (pe_lc (own := [("_law_called", 3)]) (g := gName 3) (tt := tYes) (te := (tCall spField [] E0 (tCons (tVar 0) (tCons (tVar 3) tNil)))) rfl sc_rule.nd (pi_list (pv 1)) (blkOk_by (own := [("_law_called", 3)]) (by kernel_rfl)) (fun _ _ _ _ _ => (pg_name (i := 3) sc_rule.nd rfl (by first | exact Or.inl rfl | exact Or.inr rfl))) (fun _ _ _ _ _ => pts_nil) (fun _ _ _ _ _ => by exact (pe_d D_field (hr.mono (by decide)) (pa_cons (pv 0) (pa_cons (pv 3) pa_nil))))) (pa_cons (pv 2) pa_nil)))))))), ?_⟩
    refine ⟨_, rfl, _, rfl, st, c, 3, rfl, S, by omega, by omega, fun d H1 d0 d1 S1 k1 => ?_⟩
    obtain ⟨n, rfl⟩ := Int.eq_ofNat_of_zero_le d0
    refine ⟨1, (n : Int), rfl, rfl, st, c, 1 + n, by simp, S1, by omega, fun nl ws H2 nnl hw ha S2 k2 hnl => ?_⟩
    have lw : ws.length = 1 + n := hw.len
    have k02 := k1.trans k2
    obtain ⟨ys, hys⟩ := S1.neL
    have hnst : nl ≠ st := fun z => by rw [z, hys] at nnl; cases nnl
    refine ⟨_, rfl, ?_⟩
    refine (eu_tup (vs := ways.map V.str) (ea_cons ev_c (ea_cons ev_c (ea_cons ev_c ea_nil))) (by decide)) H2 (Ex.refl _) _ fun pw H3 nw ew hpw => ?_
    have S3 := S2.same ew
    obtain ⟨zs, hzs⟩ := S3.neL
    have hpst : pw ≠ st := ne_of hpw hzs (by intro z; cases z)
    refine ⟨st, c, pw, ways.map V.str, rfl, S3, hpst, .inr (SqT.of hpw), by decide, by decide, fun v H4 hv S4 k4 => ?_⟩
    obtain ⟨wy, hwy, rfl⟩ := List.mem_map.mp hv
    have hnl4 := k4 _ _ hnst (ew _ _ hnl)
    refine ⟨_, rfl, _, rfl, st, c, nl, ws.map V.str, rfl, S4, hnst, .inl (SqL.of hnl4), by rw [List.length_map]; omega, by rw [List.length_map]; omega, fun v' H5 hv' S5 k5 => ?_⟩
    obtain ⟨nm, hnm, rfl⟩ := List.mem_map.mp hv'
    obtain ⟨i, hi⟩ := List.mem_iff_getElem?.mp hnm
    refine ⟨sz_of (by show 2 ≤ 100000; decide), fun sp nsp => ?_⟩
    have e6 := Same.upd' nsp (o := .tup [.str wy, .str nm])
    have hsp : (upd H5 sp (.tup [.str wy, .str nm])) sp = some (.tup [.str wy, .str nm]) := upd_same
    have S6 := S5.same e6
    have hnl6 := e6 _ _ (k5 _ _ hnst hnl4)
    have k06 := (((k02.trans (Kp.of ew)).trans k4).trans k5).trans (Kp.of e6)
    generalize upd H5 sp (.tup [.str wy, .str nm]) = H6 at hsp S6 hnl6 k06
    obtain ⟨us, hus⟩ := S6.neL
    have hspst : sp ≠ st := ne_of hsp hus (by intro z; cases z)
    refine ⟨_, rfl, nl, rfl, ⟨_, SqL.of hnl6⟩, fun D nD => ?_⟩
    refine lc_drawL (K := K) (σ := [some (.ref st), some (.ref nl), some (.ref sp), none]) (fun i v H' => ∃ p nm r, v = .ref p ∧ ws[i]? = some nm ∧ H' p = some (.tup ((nm :: r).map V.str)) ∧ FldOk nm r) S6 nD hnst hnl6 (by rw [List.length_map]; omega) (fun i v Ha Hb h e => ?_) (fun i x H' hx S' e' _ Q' q' => ?_) fun vs H' hl hv S' e' hD => ?_
    · obtain ⟨p, nm, r, h1, h2, h3, h4⟩ := h
      exact ⟨p, nm, r, h1, h2, e _ _ h3 (by intro _ xs z; cases z), h4⟩
    · obtain ⟨z, hz, rfl⟩ := map_inv1 hx
      exact ⟨_, rfl, _, rfl, st, c, z, rfl, S', hw.wd z (List.mem_of_getElem? hz), fun p r H7 np S7 k7 hp hf => q' _ H7 ⟨p, z, r, rfl, hz, hp, hf⟩ S7 k7⟩
    · rw [List.length_map] at hl
      obtain ⟨fs, hR, hfs, hok⟩ := rows_of ws vs hl hv
      have lf : fs.length = ws.length := by rw [← hfs, List.length_map]
      refine ⟨_, rfl, sz_of (by show 2 ≤ 100000; decide), fun t nt => ?_⟩
      have k07 := k06.trans e'
      have e8 := Same.upd' nt (o := .tup [.ref D, .ref sp])
      refine k t D sp vs fs wy nm i _ (kp_back S' k07 nt) (S'.same e8) (k07.trans (Kp.of e8)) upd_same (kp_back S6 k06 nD) (e8 _ _ hD) (hR.same e8) ⟨by omega, by omega, hok, by rw [hfs]; exact hw.nd⟩ (e8 _ _ (e' _ _ hspst hsp)) hwy (by rw [hfs]; exact hi) (by rw [hfs]; exact ha)
end
end Lm

namespace Lm
open PySem L2 Evl RZ
/-! ### what is wrong with any object as a field -/
def isWV : V → Bool
  | .str s => isW s
  | _ => false
def tx : V → Option Str
  | .str s => some s
  | _ => none
def colN : List Str := ["read", "jump", "anew", "give", "take", "kept"]
structure ColsN (K : PySem.W.Frag) (C0 : Addr) : Prop where
  ex : ∃ ps : List (Addr × Str × Addr), ps.length = 6 ∧ (∀ H, SqT K H C0 (ps.map fun z => V.ref z.1)) ∧ ∀ (i : Nat) z, ps[i]? = some z → (∀ H, SqT K H z.1 [.str z.2.1, .ref z.2.2]) ∧ colN[i]? = some z.2.1 ∧ ∃ c, cols[i]? = some c ∧ ∀ H, SqT K H z.2.2 (c.map V.str)
theorem ColsN.at_ {K : PySem.W.Frag} {C0 : Addr} (h : ColsN K C0) : ColsAt K C0 := by
  obtain ⟨ps, h1, h2, h3⟩ := h.ex
  exact ⟨ps, h1, h2, fun i z hz => let ⟨a, b, c⟩ := h3 i z hz; ⟨a, c⟩⟩
/-- a text that is not among some -/
def outB (c : List Str) : Option Str → Bool
  | some s => !decide (s ∈ c)
  | none => true
/-- the i-th word does not stand in its column -/
def cb (ws : List (Option Str)) (i : Nat) : Bool := outB (cols.getD i []) (ws.getD (i + 1) none)
def wrongW (ws : List (Option Str)) : V := match (List.range 6).find? (cb ws) with
  | some i => .str (colN.getD i "")
  | none => .non
def nmB (names : List Str) : Option Str → Bool
  | some s => !isW s || decide (s ∈ names)
  | none => true
def wrongR (names : List Str) : Option (List (Option Str)) → V
  | none => .str "field"
  | some ws => if ws.length = 7 then if nmB names (ws.getD 0 none) then .str "name" else wrongW ws else .str "field"
theorem find_first {p : Nat → Bool} : ∀ {n : Nat}, ((List.range n).find? p = none ∧ ∀ i, i < n → p i = false) ∨ ∃ k, (List.range n).find? p = some k ∧ k < n ∧ p k = true ∧ ∀ i, i < k → p i = false
  | 0 => .inl ⟨rfl, fun i h => absurd h (Nat.not_lt_zero _)⟩
  | n + 1 => by
    rw [List.range_succ, List.find?_append]
    rcases find_first (p := p) (n := n) with ⟨h1, h2⟩ | ⟨k, h1, h2, h3, h4⟩
    · rw [h1]
      cases hp : p n with
      | true => exact .inr ⟨n, by simp [hp], Nat.lt_succ_self _, hp, h2⟩
      | false => exact .inl ⟨by simp [hp], fun i hi => (Nat.lt_succ_iff_lt_or_eq.mp hi).elim (h2 i) fun e => e ▸ hp⟩
    · rw [h1]
      exact .inr ⟨k, rfl, Nat.lt_succ_of_lt h2, h3, h4⟩
/-- things of any kind -/
def AllO (K : PySem.W.Frag) (H : Hp) (xs : List V) : Prop := ∀ x ∈ xs, OddV H x ∧ WdV K H x (isWV x)
/-- the row that an object is, or none -/
def FvAt (K : PySem.W.Frag) (H : Hp) (v : V) (r : Option (List (Option Str))) : Prop := (∃ a xs, v = .ref a ∧ SeqAt H a xs ∧ AllO K H xs ∧ r = some (xs.map tx)) ∨ (NoRow K H v ∧ r = none)
theorem OddV.ex {H H' : Hp} {x : V} (e : Ex H H') (h : OddV H x) : OddV H' x := h.imp id fun ⟨a, ea, h⟩ => ⟨a, ea, by
  rcases h with ⟨ys, h⟩ | ⟨ys, h⟩ | ⟨ks, h⟩
  · exact .inl ⟨ys, e _ _ h⟩
  · exact .inr (.inl ⟨ys, e _ _ h⟩)
  · exact .inr (.inr ⟨ks, e _ _ h⟩)⟩
theorem AllO.ex {K : PySem.W.Frag} {H H' : Hp} {xs : List V} (e : Ex H H') (h : AllO K H xs) : AllO K H' xs := fun x hx => ⟨(h x hx).1.ex e, (h x hx).2.ex e⟩
theorem FvAt.ex {K : PySem.W.Frag} {H H' : Hp} {v : V} {r : Option (List (Option Str))} (e : Ex H H') (h : FvAt K H v r) : FvAt K H' v r := h.imp (fun ⟨a, xs, e1, h1, h2, h3⟩ => ⟨a, xs, e1, h1.same e, h2.ex e, h3⟩) fun ⟨h1, h2⟩ => ⟨h1.ex e, h2⟩
theorem isWV_tx {v : V} : isWV v = (match tx v with | some s => isW s | none => false) := by cases v <;> rfl
theorem tx_getD {xs : List V} {i : Nat} {v : V} (h : xs[i]? = some v) : (xs.map tx).getD i none = tx v := by
  rw [List.getD_eq_getElem?_getD, List.getElem?_map, h]
  rfl
theorem mem_txt (c : List Str) (v : V) : (!decide (v ∈ c.map V.str)) = outB c (tx v) := by
  cases v with
  | str s =>
    show (!decide (V.str s ∈ c.map V.str)) = !decide (s ∈ c)
    have : (V.str s ∈ c.map V.str) = (s ∈ c) := propext ⟨fun h => by obtain ⟨z, hz, e⟩ := List.mem_map.mp h; rw [← V.str.inj e]; exact hz, fun h => List.mem_map.mpr ⟨s, h, rfl⟩⟩
    simp only [this]
  | _ =>
    refine (congrArg not (decide_eq_false fun h => ?_)).trans rfl
    obtain ⟨z, _, e⟩ := List.mem_map.mp h
    cases e
theorem isw_call {K : PySem.W.Frag} {σ : L2.St} {H : Hp} {te : TE} {x : V} {b : Bool} (hx : Ev te σ H x) (hw : WdV K H x b) : Ev (tCall (spIsWordA K) [] E0 (tCons te tNil)) σ H (.bl b) := fun H1 e Q q => hx H1 e _ fun H2 e2 => ⟨x, b, rfl, (hw.ex e).ex e2, fun H3 e3 => q H3 (Ex.trans e2 e3)⟩
theorem isr_call {K : PySem.W.Frag} {σ : L2.St} {H : Hp} {te : TE} {x : V} {r : Option (List (Option Str))} (hx : Ev te σ H x) (hf : FvAt K H x r) : Ev (tCall (spIsRowA K) [] E0 (tCons te tNil)) σ H (.bl r.isSome) := fun H1 e Q q => hx H1 e _ fun H2 e2 => by
  have h := (hf.ex e).ex e2
  refine ⟨x, rfl, ?_⟩
  rcases h with ⟨a, xs, h1, h2, h3, rfl⟩ | ⟨h1, rfl⟩
  · exact .inl ⟨a, xs, h1, h2, fun H' e' => q H' (Ex.trans e2 e')⟩
  · exact .inr ⟨h1, fun H' e' => q H' (Ex.trans e2 e')⟩
section
variable {P : Program} {w : World} {K : PySem.W.Frag} {mg : Str → Option Value} {base : Heap} {f : Addr} {fd : FuncData}
/-- any object behind fields with some names -/
def spWrongA (K : PySem.W.Frag) : Sp := fun vs H Q _ => ∃ (v : V) (l : Addr) (r : Option (List (Option Str))) (names : List Str), vs = [v, .ref l] ∧ FvAt K H v r ∧ H l = some (.lst (names.map V.str)) ∧ ∀ H', Ex H H' → Q (if names.length = 3 then .str "field" else wrongR names r) H'
theorem ok_wrong_any {C0 W0 fR fI : Addr} {fdR fdI : FuncData} {tM : Tok} (F : L2.Fun K "wrong_with" "wrong_with" s_wrong_with f fd) (T : Blt mg) (T' : RlCst mg C0 W0 tM) (CC : ColsN K C0) (D_is_row : DefOk P w K mg base 1 "is_row" fR fdR ["x"] (spIsRowA K)) (D_is_word : DefOk P w K mg base 1 "is_word" fI fdI ["x"] (spIsWordA K)) :
    FnOk P w K mg base CX0 2 f fd ["field", "names"] (spWrongA K) := by
  refine F.ok sc_wrong_with (fun vs H Q E h => ?_) (fun cdv A outer s H vs Q E hr h => ?_)
  · obtain ⟨v, l, r, names, rfl, _⟩ := h
    rfl
  · obtain ⟨v, l, r, names, rfl, hf, hl, k⟩ := h
    obtain ⟨ps, lps, hC, hps⟩ := CC.ex
    refine ⟨_, (pss_cons (ps_if (PW.pt (pw_or (pt_cmpR op_eq (pe_callB call_len_seq (by rfl) T.b_len PySem.boot_len (pa_cons (pv 1) pa_nil)) (pe_glob (v := c_MOST_FIELDS) rfl T'.g_MOST_FIELDS ⟨_, rfl⟩) (nomark _)) (pw_or (pt_not (pt_val (pe_d D_is_row (hr.mono (by decide)) (pa_cons (pv 0) pa_nil)))) (pw_or1 (pt_cmpR op_ne (pe_callB call_len_seq (by rfl) T.b_len PySem.boot_len (pa_cons (pv 0) pa_nil)) (pe_op op_add pe_int (pe_callB call_len_seq (by rfl) T.b_len PySem.boot_len (pa_cons (pe_glob (v := .ref C0) rfl T'.g_COLUMNS rfl) pa_nil))) (nomark _)))))) (pss_one (ps_ret pe_str)) pss_nil)
        (pss_cons (ps_if (PW.pt (pw_or (pt_not (pt_val (pe_d D_is_word (hr.mono (by decide)) (pa_cons (pe_ix ix_seq (pv 0) pe_int (fun _ _ => rfl)) pa_nil)))) (pw_or1 (pt_cmpR op_in_seq (pe_ix ix_seq (pv 0) pe_int (fun _ _ => rfl)) (pv 1) (by rfl))))) (pss_one (ps_ret pe_str)) pss_nil)
        (pss_cons (ps_for PassesOwn.never rfl (pi_or (pi_zipN rfl T.b_zip (pa_cons (pe_glob (v := .ref C0) rfl T'.g_COLUMNS rfl) (pa_cons (pe_slice (SlR.or sl_list sl_tup) (pv 0) (po_some pe_int) po_none) pa_nil))) (pi_zipA rfl T.b_zip (pa_cons (pe_glob (v := .ref C0) rfl T'.g_COLUMNS rfl) (pa_cons (pe_slice (SlR.or sl_list sl_tup) (pv 0) (po_some pe_int) po_none) pa_nil)))) (pg_tup rfl (pgs_cons (pg_tup rfl (pgs_cons (pg_name (i := 2) sc_wrong_with.nd rfl (by first | exact Or.inl rfl | exact Or.inr rfl)) (pgs_cons (pg_name (i := 3) sc_wrong_with.nd rfl (by first | exact Or.inl rfl | exact Or.inr rfl)) pgs_nil))) (pgs_cons (pg_name (i := 4) sc_wrong_with.nd rfl (by first | exact Or.inl rfl | exact Or.inr rfl)) pgs_nil))) (pss_one (ps_if (pt_cmpR (op_notInT hr.units) (pv 4) (pv 3) (by rfl)) (pss_one (ps_ret (pv 2))) pss_nil)))
        (pss_one (ps_ret pe_non))))), ?_⟩
    have eC : ∀ {σ : L2.St} {H1 : Hp}, Ev (tCB (rLenS K) (tCons (tC (.ref C0)) tNil)) σ H1 (.int 6) := fun {σ H1} H2 e2 Q q => ⟨C0, _, rfl, .inr (hC H2), by rw [List.length_map, lps]; exact q H2 (Ex.refl _)⟩
    have hlen : ∀ a xs, v = .ref a → SeqAt H a xs → EvT (tTest (tOp rNe (tCB (rLenS K) (tCons (tVar 0) tNil)) (tOp rAdd (tC (.int 1)) (tCB (rLenS K) (tCons (tC (.ref C0)) tNil))))) [some v, some (.ref l), none, none, none] H (!decide (xs.length = 7)) := fun a xs ev ha => by
      subst ev
      refine et_is (et_test (ev_op (ev_lenQ1 (ev_var rfl) ha) (ev_op ev_c eC rv_I0) (rv_ne rfl))) ?_
      have : (V.int (xs.length : Int) = V.int (1 + 6)) = (xs.length = 7) := propext ⟨fun z => by have := V.int.inj z; omega, fun z => by rw [z]; rfl⟩
      simp only [this]
    have n3 : EvT (tTest (tOp rEq (tCB (rLenS K) (tCons (tVar 1) tNil)) (tC (.int 3)))) [some v, some (.ref l), none, none, none] H (decide (names.length = 3)) := by
      refine et_is (et_test (ev_op (ev_lenL (ev_var rfl) hl) ev_c (rv_eq rfl))) ?_
      rw [List.length_map]
      have : (V.int (names.length : Int) = V.int 3) = (names.length = 3) := propext ⟨fun z => by have := V.int.inj z; omega, fun z => by rw [z]; rfl⟩
      simp only [this]
    by_cases h3 : names.length = 3
    · rw [if_pos h3] at k
      exact q_when (b := true) (et_is (et_or (b := false) n3 fun z => absurd h3 (of_decide_eq_false z)) (by rw [decide_eq_true h3]; rfl)) (fun _ H1 e1 => s_ret ev_c fun H2 e2 => k H2 (Ex.trans e1 e2)) (fun z => nomatch z)
    rw [if_neg h3] at k
    rcases id hf with ⟨a, xs, rfl, ha, ho, rfl⟩ | ⟨hno, rfl⟩
    rotate_left
    · exact q_when (b := true) (et_is (et_or n3 fun _ => et_or (b := true) (et_not (et_B (isr_call (ev_var rfl) hf))) fun z => nomatch z) (by rw [decide_eq_false h3]; rfl)) (fun _ H1 e1 => s_ret ev_c fun H2 e2 => k H2 (Ex.trans e1 e2)) (fun z => nomatch z)
    by_cases l7 : xs.length = 7
    rotate_left
    · have kw : wrongR names (some (xs.map tx)) = .str "field" := by
        show (if (xs.map tx).length = 7 then _ else V.str "field") = _
        rw [if_neg (by rw [List.length_map]; exact l7)]
      rw [kw] at k
      exact q_when (b := true) (et_is (et_or n3 fun _ => et_or (et_not (et_B (isr_call (ev_var rfl) hf))) fun _ => hlen a xs rfl ha) (by rw [decide_eq_false h3, decide_eq_false l7]; rfl)) (fun _ H1 e1 => s_ret ev_c fun H2 e2 => k H2 (Ex.trans e1 e2)) (fun z => nomatch z)
    refine q_when (b := false) (et_is (et_or n3 fun _ => et_or (et_not (et_B (isr_call (ev_var rfl) hf))) fun _ => hlen a xs rfl ha) (by rw [decide_eq_false h3, decide_eq_true l7]; rfl)) (fun z => nomatch z) fun _ H1 e1 => ?_
    have ha1 := ha.same e1
    have hl1 := e1 _ _ hl
    have ho1 := ho.ex e1
    obtain ⟨x0, r0, rfl⟩ : ∃ x r, xs = x :: r := by cases xs with | nil => cases l7 | cons x r => exact ⟨x, r, rfl⟩
    have l6 : r0.length = 6 := by simpa using l7
    have e0 : ∀ {H2 : Hp} {σ : L2.St}, Ex H1 H2 → σ[0]? = some (some (.ref a)) → Ev (tOp (rIx K) (tVar 0) (tC (.int 0))) σ H2 x0 := fun e2 h0 => ev_op (ev_var h0) ev_c (rv_ixQ1 (n := 0) (ha1.same e2) rfl)
    have kw : wrongR names (some ((x0 :: r0).map tx)) = if nmB names (tx x0) then .str "name" else wrongW ((x0 :: r0).map tx) := by
      show (if ((x0 :: r0).map tx).length = 7 then (if nmB names (tx x0) then V.str "name" else wrongW ((x0 :: r0).map tx)) else _) = _
      rw [if_pos (by rw [List.length_map]; exact l7)]
    have test : EvT (tOr (tNot (tTest (tCall (spIsWordA K) [] E0 (tCons (tOp (rIx K) (tVar 0) (tC (.int 0))) tNil)))) (tTest (tOp (rIn K false) (tOp (rIx K) (tVar 0) (tC (.int 0))) (tVar 1)))) [some (.ref a), some (.ref l), none, none, none] H1 (nmB names (tx x0)) := by
      have hw := isw_call (e0 (Ex.refl _) rfl : Ev _ [some (.ref a), some (.ref l), none, none, none] H1 x0) (ho1 x0 (by simp)).2
      cases x0 with
      | str s => exact et_is (et_or (et_not (et_B hw)) fun _ => et_test (ev_op (e0 (Ex.refl _) rfl) (ev_var rfl) (rv_isL (sq_of hl1) rfl (strs_flat1 _)))) (by rw [strs_in1]; rfl)
      | _ => exact et_is (et_or (b := true) (et_not (et_B hw)) fun z => nomatch z) rfl
    refine q_when test (fun hb H2 e2 => ?_) fun hb H2 e2 => ?_
    · rw [kw, if_pos hb] at k
      exact s_ret ev_c fun H3 e3 => k H3 (Ex.trans e1 (Ex.trans e2 e3))
    rw [kw, hb, if_neg (by simp)] at k
    have e02 := Ex.trans e1 e2
    have ho2 := ho1.ex e2
    have ha2 := ha1.same e2
    have hg : ∀ i, (x0 :: r0)[i + 1]? = r0[i]? := fun i => rfl
    obtain ⟨N, hN, hlo, hbad, hend⟩ : ∃ N, N ≤ 6 ∧ (∀ i, i < N → cb ((x0 :: r0).map tx) i = false) ∧ (N < 6 → cb ((x0 :: r0).map tx) N = true ∧ wrongW ((x0 :: r0).map tx) = .str (colN.getD N "")) ∧ (N = 6 → wrongW ((x0 :: r0).map tx) = .non) := by
      unfold wrongW
      rcases find_first (p := cb ((x0 :: r0).map tx)) (n := 6) with ⟨h1, h2⟩ | ⟨j, h1, h2, h3, h4⟩
      · rw [h1]; exact ⟨6, Nat.le_refl _, h2, fun z => absurd z (Nat.lt_irrefl _), fun _ => rfl⟩
      · rw [h1]; exact ⟨j, Nat.le_of_lt h2, h4, fun _ => ⟨h3, rfl⟩, fun z => by omega⟩
    have turn : ∀ (Hb : Hp), Ex H2 Hb → ∀ (i : Nat) (σ' : L2.St) (H3 H4 : Hp) (x : V) (D : Ends), D.rt = Q → i < 6 → (i ≤ N ∧ ∃ u2 u3 u4 : Option V, σ' = [some (.ref a), some (.ref l), u2, u3, u4] ∧ Same Hb H3) → YPair (fun i => (ps.map fun z => V.ref z.1)[i]?) (fun i => r0[i]?) i H3 x H4 →
        gTup K 2 (gCons (gTup K 2 (gCons (gName 2) (gCons (gName 3) gNil))) (gCons (gName 4) gNil)) x σ' H4 fun σ2 H2 => tIfS (tTest (tOp (rInT K true) (tVar 4) (tVar 3))) (tRet (tVar 2)) tNext { D with nx := fun σ' H' => i + 1 ≤ N ∧ ∃ u2 u3 u4 : Option V, σ' = [some (.ref a), some (.ref l), u2, u3, u4] ∧ Same Hb H' } σ2 H2 := by
      rintro Hb eb i σ' H3 H4 x D hD hi ⟨hin, u2, u3, u4, rfl, e⟩ ⟨tpa, x1, x2, rfl, nT, rfl, hx1, hx2⟩
      obtain ⟨z, hz, rfl⟩ := map_inv1 hx1
      obtain ⟨hz1, hcn, c, hc, hz2⟩ := hps i z hz
      have hx2 : r0[i]? = some x2 := hx2
      have eT := Same.upd' nT (o := .tup [.ref z.1, x2])
      refine ⟨tpa, _, rfl, SqT.of upd_same, rfl, _, _, rfl, ⟨z.1, _, rfl, hz1 _, rfl, _, _, rfl, _, _, rfl, rfl, _, _, rfl, rfl, ?_⟩⟩
      dsimp only [List.set]
      have e24 := Ex.trans eb (Ex.trans e eT)
      have ox : OddV (upd H3 tpa (.tup [.ref z.1, x2])) x2 := ((ho2 x2 (List.mem_of_getElem? ((hg i).trans hx2))).1).ex e24
      have hcb : (!decide (x2 ∈ c.map V.str)) = cb ((x0 :: r0).map tx) i := by
        unfold cb
        rw [tx_getD ((hg i).trans hx2), mem_txt, List.getD_eq_getElem?_getD, hc]
        rfl
      refine s_when (b := cb ((x0 :: r0).map tx) i) (et_test (b := cb ((x0 :: r0).map tx) i) fun H5 e5 Q' q => ⟨_, rfl, _, rfl, z.2.2, c, rfl, .inl (hz2 _), ox.ex e5, by
        rw [if_pos rfl, hcb]
        exact q H5 (Ex.refl _)⟩) (fun hb5 H5 e5 => ?_) fun hb5 H5 e5 => ?_
      · have hNi : N = i := by
          rcases Nat.lt_or_ge i N with h | h
          · rw [hlo i h] at hb5; cases hb5
          · omega
        subst hNi
        have hw := (hbad hi).2
        rw [List.getD_eq_getElem?_getD, hcn] at hw
        refine s_ret (v := .str z.2.1) (ev_var rfl) fun H6 e6 => ?_
        show D.rt _ _
        rw [hD]
        have := k H6 (Ex.trans e02 (Ex.trans e24 (Ex.trans e5 e6)))
        rw [hw] at this
        exact this
      · have hlt : i < N := by
          rcases Nat.lt_or_ge i N with h | h
          · exact h
          · have : i = N := by omega
            subst this
            rw [(hbad hi).1] at hb5
            cases hb5
        exact ⟨hlt, _, _, _, rfl, Same.trans (Same.trans e eT) e5⟩
    have lm : min (ps.map fun z => V.ref z.1).length r0.length = 6 := by rw [List.length_map, lps, l6]; rfl
    have fin : ∀ (Hb : Hp), Ex H2 Hb → ∀ σ' H', (6 ≤ N ∧ ∃ u2 u3 u4 : Option V, σ' = [some (.ref a), some (.ref l), u2, u3, u4] ∧ Same Hb H') → tRet (tC .non) { nx := fun _ H' => Q .non H', rt := Q } σ' H' := fun Hb eb σ' H' ⟨h6, u2, u3, u4, _, e⟩ => s_ret ev_c fun H5 e5 => by
      have := k H5 (Ex.trans e02 (Ex.trans eb (Ex.trans e e5)))
      rw [hend (by omega)] at this
      exact this
    rcases ha2 with h | h
    · refine .inl ⟨_, rfl, (1 : Int), rfl, .inl ⟨a, _, rfl, SqL.of h, fun p np => ?_⟩⟩
      rw [cut1]
      exact ⟨C0, p, _, _, rfl, hC _, SqL.of upd_same, for_it (walk_zipN rfl) (fun i σ' H' => i ≤ N ∧ ∃ u2 u3 u4 : Option V, σ' = [some (.ref a), some (.ref l), u2, u3, u4] ∧ Same (upd H2 p (.lst r0)) H') ⟨Nat.zero_le _, _, _, _, rfl, Same.refl _⟩ (fun i σ' H' _ ⟨_, _, _, _, _, e⟩ => ⟨hC _, SqL.of (e _ _ upd_same)⟩) (fun i x σ' H3 H4 hi p y => turn _ (Ex.new np) i σ' H3 H4 x _ rfl (by rw [lm] at hi; exact hi) p y) (fun σ' H' p => fin _ (Ex.new np) σ' H' (by rw [lm] at p; exact p))⟩
    · refine .inr ⟨_, rfl, (1 : Int), rfl, .inr ⟨a, _, rfl, SqT.of h, ?_, fun p np => ?_⟩⟩
      · rintro ⟨h1, _⟩
        rw [sIx1] at h1
        cases h1
      · rw [cut1]
        exact ⟨C0, p, _, _, rfl, .inr ⟨hC _, SqT.of upd_same, for_it (walk_zipT rfl) (fun i σ' H' => i ≤ N ∧ ∃ u2 u3 u4 : Option V, σ' = [some (.ref a), some (.ref l), u2, u3, u4] ∧ Same (upd H2 p (.tup r0)) H') ⟨Nat.zero_le _, _, _, _, rfl, Same.refl _⟩ (fun i σ' H' _ ⟨_, _, _, _, _, e⟩ => ⟨hC _, SqT.of (e _ _ upd_same)⟩) (fun i x σ' H3 H4 hi p y => turn _ (Ex.new np) i σ' H3 H4 x _ rfl (by rw [lm] at hi; exact hi) p y) (fun σ' H' p => fin _ (Ex.new np) σ' H' (by rw [lm] at p; exact p))⟩⟩
end
end Lm

namespace Lm
open PySem L2 Evl RZ
structure ErrI2 (P : Program) (w : World) (K : PySem.W.Frag) (mg : Str → Option Value) (base : Heap) (C fI : Addr) (fdI : FuncData) (f1 f2 : Str) : Prop where
  ok : FnOk P w K mg base CX0 1 fI fdI ["self", f1, f2] (spErrI2 C f1 f2)
  bd : Binds K fdI ["self", f1, f2] []
theorem pmk_errF2 {X : Cx} {x f1 f2 : Str} {C fI : Addr} {fdI : FuncData} {e1 e2 : Expr} {ta tb : TE} {p pos : Pos} (T : ErrF2 X.K X.mg x C fI f1 f2) (I : ErrI2 X.prog X.w X.K X.mg X.base C fI fdI f1 f2) (hr : Room 2 X.A) (ha : PA X [e1, e2] (tCons ta (tCons tb tNil))) (hg : Gl X x := by rfl) (hdb : (x == ("__debug__" : Str)) = false := by decide)
    (hst : starEach [e1, e2] X.env = (false, eval e1 X.env) :: starEach [e2] X.env := by rfl) (hpl : (backTo pos (starEach [e2] X.env)).any (·.1) = false := by rfl) : PMk X (.Call (.Name x p) [e1, e2] [] pos) (tMkO C (spErrI2 C f1 f2) [] (tCons ta (tCons tb tNil))) :=
  pmk_oex T.T T.ini T.ty I.ok hr I.bd .nil pass0 hg T.g ha hdb hst hpl
theorem ev_notN {σ : L2.St} {H : Hp} {te : TE} {x : V} (h : Ev te σ H x) : Ev (tOp rNotN te (tC .non)) σ H (.bl (!decide (x = .non))) := fun H1 e1 Q q => h H1 e1 _ fun H2 e2 => ⟨rfl, q H2 e2⟩
/-- BadRule is raised -/
def Rs2 (C : Addr) (r i : V) (H : Hp) (E : XK) : Prop := ∀ H' d, Ex H H' → H' d = none → E (.ref C) (some d) (upd H' d (.xd [("reason", r), ("index", i)]))
theorem Rs2.ex {C : Addr} {r i : V} {H H' : Hp} {E : XK} (k : Rs2 C r i H E) (e : Ex H H') : Rs2 C r i H' E := fun H2 d e2 nd => k H2 d (Ex.trans e e2) nd
abbrev Vw := Option (List (Option Str))
def nameOf : Vw → Str
  | some (some s :: _) => s
  | _ => ""
def namesOf (rs : List Vw) (n : Nat) : List Str := (rs.take n).map nameOf
def whyP (rs : List Vw) (n : Nat) : V := if (namesOf rs n).length = 3 then .str "field" else wrongR (namesOf rs n) (rs.getD n none)
/-- the things of a row, as rows -/
structure RvAt (K : PySem.W.Frag) (H : Hp) (xs : List V) (rs : List Vw) : Prop where
  len : xs.length = rs.length
  at_ : ∀ (i : Nat) r, rs[i]? = some r → ∃ v, xs[i]? = some v ∧ FvAt K H v r
theorem RvAt.ex {K : PySem.W.Frag} {H H' : Hp} {xs : List V} {rs : List Vw} (e : Ex H H') (h : RvAt K H xs rs) : RvAt K H' xs rs := ⟨h.len, fun i r hr => let ⟨v, h1, h2⟩ := h.at_ i r hr; ⟨v, h1, h2.ex e⟩⟩
def FsAt (K : PySem.W.Frag) (H : Hp) (v : V) (o : Option (List Vw)) : Prop := (∃ a xs rs, v = .ref a ∧ SeqAt H a xs ∧ RvAt K H xs rs ∧ o = some rs) ∨ (NoRow K H v ∧ o = none)
theorem wrongW_non {ws : List (Option Str)} (h : wrongW ws = .non) : ∀ i, i < 6 → cb ws i = false := by
  unfold wrongW at h
  rcases find_first (p := cb ws) (n := 6) with ⟨_, h2⟩ | ⟨k, h1, _⟩
  · exact h2
  · rw [h1] at h; cases h
/-- what a good field is -/
theorem wrongR_non {names : List Str} {r : Vw} (h : wrongR names r = .non) : ∃ s ws, r = some (some s :: ws) ∧ isW s = true ∧ s ∉ names ∧ ws.length = 6 ∧ ∀ i, i < 6 → outB (cols.getD i []) (ws.getD i none) = false := by
  cases r with
  | none => cases h
  | some ws =>
    unfold wrongR at h
    dsimp only at h
    split at h
    · rename_i l7
      split at h
      · cases h
      · rename_i hn
        have hc := wrongW_non h
        cases ws with
        | nil => cases l7
        | cons o ws =>
          cases o with
          | none => exact absurd (show nmB names (((none : Option Str) :: ws).getD 0 none) = true from rfl) hn
          | some s =>
            have hn : ¬ (!isW s || decide (s ∈ names)) = true := hn
            rw [Bool.or_eq_true, not_or] at hn
            refine ⟨s, ws, rfl, by simpa using hn.1, by simpa using hn.2, by simpa using l7, fun i hi => hc i hi⟩
    · cases h
theorem tx_str {v : V} {s : Str} (h : tx v = some s) : v = .str s := by cases v with | str t => cases h; rfl | _ => cases h
theorem map_tx_some {xs : List V} {ws : List Str} (h : xs.map tx = ws.map some) : xs = ws.map V.str := by
  induction ws generalizing xs with
  | nil => cases xs with | nil => rfl | cons x r => cases h
  | cons w ws ih =>
    cases xs with
    | nil => cases h
    | cons x r =>
      injection h with h1 h2
      rw [tx_str h1, ih h2]
      rfl
theorem all_some {ws : List (Option Str)} (h : ∀ i, i < ws.length → ws.getD i none ≠ none) : ∃ l : List Str, ws = l.map some := by
  induction ws with
  | nil => exact ⟨[], rfl⟩
  | cons o ws ih =>
    obtain ⟨l, hl⟩ := ih fun i hi => h (i + 1) (by simp; omega)
    cases o with
    | none => exact absurd rfl (h 0 (by simp))
    | some s => exact ⟨s :: l, by rw [hl]; rfl⟩
/-- rows that are all good are the rows of a rule -/
theorem rows_good {K : PySem.W.Frag} {H : Hp} {xs : List V} {rs : List Vw} (h : RvAt K H xs rs) (l0 : 0 < rs.length) (hw : ∀ i, i < rs.length → whyP rs i = .non) : ∃ l, RowsZ H xs l ∧ FsOk (fsOf l) ∧ rs = (fsOf l).map fun z => some ((z.1 :: z.2).map some) := by
  have base : ∀ i, i < rs.length → ∃ s r, rs[i]? = some (some ((s :: r).map some)) ∧ FldOk s r ∧ s ∉ namesOf rs i ∧ i < 3 := fun i hi => by
    have h1 := hw i hi
    unfold whyP at h1
    split at h1
    · cases h1
    · rename_i h3
      obtain ⟨s, ws, hr, hs, hn, l6, hc⟩ := wrongR_non h1
      obtain ⟨r, rfl⟩ := all_some (ws := ws) fun j hj z => by
        have := hc j (by omega)
        rw [z] at this
        cases this
      refine ⟨s, r, ?_, ⟨hs, by simpa using l6, fun j w c hw' hc' => ?_⟩, hn, ?_⟩
      · rw [List.getD_eq_getElem?_getD, List.getElem?_eq_getElem hi] at hr
        rw [List.getElem?_eq_getElem hi]
        exact congrArg some hr
      · have h6 := hc j (by have := (List.getElem?_eq_some_iff.mp hw').1; simp at l6; omega)
        rw [List.getD_eq_getElem?_getD, List.getD_eq_getElem?_getD, hc', List.getElem?_map, hw'] at h6
        simpa [outB] using h6
      · have hl : (namesOf rs i).length = i := by unfold namesOf; rw [List.length_map, List.length_take]; omega
        rcases Nat.lt_or_ge i 3 with h | h
        · exact h
        · have h33 : 3 < rs.length ∨ i = 3 := by omega
          rcases h33 with h33 | h33
          · have h4 := hw 3 h33
            unfold whyP at h4
            rw [if_pos (by unfold namesOf; rw [List.length_map, List.length_take]; omega)] at h4
            cases h4
          · rw [hl] at h3; exact absurd h33 h3
  have l3 : rs.length ≤ 3 := by
    rcases Nat.lt_or_ge 3 rs.length with h | h
    · obtain ⟨_, _, _, _, _, h'⟩ := base 3 h
      omega
    · exact h
  have mk : ∀ n, n ≤ rs.length → ∃ l : List (Addr × Str × List Str), l.length = n ∧ xs.take n = l.map (fun z => V.ref z.1) ∧ (∀ z ∈ l, SeqAt H z.1 ((z.2.1 :: z.2.2).map V.str)) ∧ (∀ z ∈ l, FldOk z.2.1 z.2.2) ∧ rs.take n = (fsOf l).map (fun z => some ((z.1 :: z.2).map some)) ∧ ((fsOf l).map fun z => z.1).Nodup := fun n => by
    induction n with
    | zero => exact fun _ => ⟨[], rfl, rfl, (fun z hz => by cases hz), (fun z hz => by cases hz), rfl, .nil⟩
    | succ n ih =>
      intro hn
      obtain ⟨l, g1, g2, g3, g4, g5, g6⟩ := ih (by omega)
      obtain ⟨s, r, q1, q2, q3, q4⟩ := base n (by omega)
      obtain ⟨v, hv, hf⟩ := h.at_ n _ q1
      rcases hf with ⟨a, ys, rfl, hy, ho, he⟩ | ⟨_, he⟩
      · have hys := map_tx_some (Option.some.inj he).symm
        subst hys
        have hnm : namesOf rs n = (fsOf l).map fun z => z.1 := by
          unfold namesOf
          rw [g5, List.map_map]
          rfl
        refine ⟨l ++ [(a, s, r)], by simp [g1], by rw [List.take_succ, hv, g2, List.map_append]; rfl, fun z hz => ?_, fun z hz => ?_, by rw [List.take_succ, q1, g5]; unfold fsOf; rw [List.map_append, List.map_append]; rfl, ?_⟩
        · rcases List.mem_append.mp hz with hz | hz
          · exact g3 z hz
          · rw [List.mem_singleton.mp hz]; exact hy
        · rcases List.mem_append.mp hz with hz | hz
          · exact g4 z hz
          · rw [List.mem_singleton.mp hz]; exact q2
        · unfold fsOf at g6 hnm ⊢
          rw [List.map_append, List.map_append]
          refine List.nodup_append.mpr ⟨g6, by simp, fun x hx y hy e => q3 ?_⟩
          have : y = s := by simpa using hy
          rw [hnm, ← this, ← e]
          exact hx
      · cases he
  obtain ⟨l, g1, g2, g3, g4, g5, g6⟩ := mk rs.length (Nat.le_refl _)
  rw [List.take_length] at g5
  rw [← h.len, List.take_length] at g2
  have ll : (fsOf l).length = rs.length := by unfold fsOf; rw [List.length_map, g1]
  exact ⟨l, ⟨g2, g3⟩, ⟨by omega, by omega, fun z hz => by
    unfold fsOf at hz
    obtain ⟨y, hy, rfl⟩ := List.mem_map.mp hz
    exact g4 y hy, g6⟩, g5⟩
section
variable {P : Program} {w : World} {K : PySem.W.Frag} {mg : Str → Option Value} {base : Heap} {f : Addr} {fd : FuncData}
abbrev s_BadRule_init : Stmt := inClass (top 8) 0
theorem sc_BadRule_init : FnScope ["self", "index", "reason"] ["self", "index", "reason"] (defScope s_BadRule_init) := ⟨rfl, rfl, rfl, by decide +kernel, rfl, by decide +kernel, by decide +kernel⟩
theorem ok_bad_rule {C : Addr} (F : Fun K "__init__" "BadRule.__init__" s_BadRule_init f fd) (T : OexC K C) (n1 : PySem.W.findIn K (.ref C) "index" = some none) (n2 : PySem.W.findIn K (.ref C) "reason" = some none) : FnOk P w K mg base CX0 1 f fd ["self", "index", "reason"] (spErrI2 C "index" "reason") := by
  refine F.ok sc_BadRule_init (fun vs H Q E h => ?_) (fun cdv A outer s H vs Q E hr h => ?_)
  · obtain ⟨a, v1, v2, rfl, _⟩ := h
    rfl
  · obtain ⟨a, v1, v2, rfl, ha, k⟩ := h
    refine ⟨_, (pss_cons (ps_ost (pv 0) (pv 1) rfl) (pss_one (ps_ost (pv 0) (pv 2) rfl))), ?_⟩
    exact ⟨_, rfl, _, rfl, a, C, rfl, T, n1, .inl ⟨ha, fun dx ndx hda => ⟨_, rfl, _, rfl, a, C, rfl, T, n2, .inr ⟨dx, [("index", v1)], upd_same, by rw [upd_ne hda]; exact upd_same, by show 1 ≤ 900; decide, k dx ndx hda⟩⟩⟩⟩
/-- require_fields of any object -/
def spReqX (K : PySem.W.Frag) (C : Addr) : Sp := fun vs H Q E => ∃ (v : V) (o : Option (List Vw)), vs = [v] ∧ FsAt K H v o ∧
  (((o = none ∨ o = some []) ∧ Rs2 C (.str "field") (.int 0) H E) ∨
   (∃ rs n, o = some rs ∧ n < rs.length ∧ whyP rs n ≠ .non ∧ (∀ i, i < n → whyP rs i = .non) ∧ Rs2 C (whyP rs n) (.int (n : Nat)) H E) ∨
   (∃ rs, o = some rs ∧ 0 < rs.length ∧ (∀ i, i < rs.length → whyP rs i = .non) ∧ ∀ H', Ex H H' → Q .non H'))
theorem ok_req_any {C fR fW fI : Addr} {fdR fdW fdI : FuncData} (F : L2.Fun K "require_fields" "require_fields" s_require_fields f fd) (T : Blt mg) (TB : ErrF2 K mg "BadRule" C fI "index" "reason") (IB : ErrI2 P w K mg base C fI fdI "index" "reason") (D_is_row : DefOk P w K mg base 1 "is_row" fR fdR ["x"] (spIsRowA K)) (D_wrong_with : DefOk P w K mg base 2 "wrong_with" fW fdW ["field", "names"] (spWrongA K)) :
    FnOk P w K mg base (L2.CX P w) 3 f fd ["fields"] (spReqX K C) := by
  refine F.okX sc_require_fields (fun vs H Q E h => ?_) (fun cdv A outer s H vs Q E hr h => ?_)
  · obtain ⟨v, o, rfl, _⟩ := h
    rfl
  · obtain ⟨v, o, rfl, hfs, hk⟩ := h
    refine ⟨_, (pss_cons (ps_if (PW.pt (pw_or (pt_not (pt_val (pe_d D_is_row (hr.mono (by decide)) (pa_cons (pv 0) pa_nil)))) (pw_or1 (pt_cmpR op_eq (pe_callB call_len_seq (by rfl) T.b_len PySem.boot_len (pa_cons (pv 0) pa_nil)) pe_int (nomark _))))) (pss_one (ps_raise rfl (takes_of rfl rfl rfl rfl) (pmk_errF2 TB IB (hr.mono (by decide)) (pa_cons pe_int (pa_cons pe_str pa_nil))))) pss_nil)
        (pss_cons (ps_set (i := 1) sc_require_fields.nd rfl (by first | exact Or.inl rfl | exact Or.inr rfl) (pe_lst pa_nil))
        (pss_one (ps_for (passes_of rfl) rfl (pi_enumA rfl T.b_enumerate (pa_cons (pv 0) pa_nil)) (pg_tup rfl (pgs_cons (pg_name (i := 2) sc_require_fields.nd rfl (by first | exact Or.inl rfl | exact Or.inr rfl)) (pgs_cons (pg_name (i := 3) sc_require_fields.nd rfl (by first | exact Or.inl rfl | exact Or.inr rfl)) pgs_nil))) (pss_cons (ps_set (i := 4) sc_require_fields.nd rfl (by first | exact Or.inl rfl | exact Or.inr rfl) (pe_d D_wrong_with (hr.mono (by decide)) (pa_cons (pv 3) (pa_cons (pv 1) pa_nil))))
        (pss_cons (ps_if (pt_cmpR op_notN1 (pv 4) pe_non (nomark _)) (pss_one (ps_raise rfl (takes_of rfl rfl rfl rfl) (pmk_errF2 TB IB (hr.mono (by decide)) (pa_cons (pv 2) (pa_cons (pv 4) pa_nil))))) pss_nil)
        (pss_one (ps_expr (pe_bm PySem.F.plainAttrs_list PySem.F.slot_list_append PySem.F.type_list_append mt_append (pv 1) (pa_cons (pe_ix ix_seq (pv 3) pe_int (fun _ _ => rfl)) pa_nil)))))))))), ?_⟩
    rcases hfs with ⟨a, xs, rs, rfl, ha, hR, rfl⟩ | ⟨hno, rfl⟩
    rotate_left
    · have k : Rs2 C (.str "field") (.int 0) H E := by
        rcases hk with ⟨_, k⟩ | ⟨rs, n, z, _⟩ | ⟨rs, z, _⟩
        · exact k
        · cases z
        · cases z
      have isr : Ev (tCall (spIsRowA K) [] E0 (tCons (tVar 0) tNil)) [some v, none, none, none, none] H (.bl false) := fun H1 e1 Q q => ⟨_, rfl, _, rfl, .inr ⟨hno.ex e1, fun H2 e2 => q H2 e2⟩⟩
      exact q_when (b := true) (et_or (b := true) (et_not (et_B isr)) fun z => nomatch z) (fun _ H1 e1 => go_mkO2 ev_c ev_c fun H2 d e2 nd => k H2 d (Ex.trans e1 e2) nd) (fun z => nomatch z)
    have lx := hR.len
    have isr : Ev (tCall (spIsRowA K) [] E0 (tCons (tVar 0) tNil)) [some (.ref a), none, none, none, none] H (.bl true) := fun H1 e1 Q q => ⟨_, rfl, _, rfl, .inl ⟨a, xs, rfl, ha.same e1, fun H2 e2 => q H2 e2⟩⟩
    have h0 : EvT (tOr (tNot (tTest (tCall (spIsRowA K) [] E0 (tCons (tVar 0) tNil)))) (tTest (tOp rEq (tCB (rLenS K) (tCons (tVar 0) tNil)) (tC (.int 0))))) [some (.ref a), none, none, none, none] H (decide (rs.length = 0)) := by
      refine et_is (et_or (et_not (et_B isr)) fun _ => et_test (ev_op (ev_lenQ1 (ev_var rfl) ha) ev_c (rv_eq rfl))) ?_
      have : (V.int (xs.length : Int) = V.int 0) = (rs.length = 0) := propext ⟨fun z => by have := V.int.inj z; omega, fun z => by rw [lx, z]; rfl⟩
      simp only [this]
      rfl
    refine q_when h0 (fun hb H1 e1 => ?_) fun hb H1 e1 => ?_
    · have l0 : rs = [] := List.eq_nil_of_length_eq_zero (of_decide_eq_true hb)
      subst l0
      have k : Rs2 C (.str "field") (.int 0) H E := by
        rcases hk with ⟨_, k⟩ | ⟨rs, n, z, hn, _⟩ | ⟨rs, z, hn, _⟩
        · exact k
        · cases z; cases hn
        · cases z; cases hn
      exact go_mkO2 ev_c ev_c fun H2 d e2 nd => k H2 d (Ex.trans e1 e2) nd
    have l0 : 0 < rs.length := by have := of_decide_eq_false hb; omega
    obtain ⟨N, hN, hlo, hbad, hend⟩ : ∃ N, N ≤ rs.length ∧ (∀ i, i < N → whyP rs i = .non) ∧ (N < rs.length → whyP rs N ≠ .non ∧ Rs2 C (whyP rs N) (.int (N : Nat)) H E) ∧ (N = rs.length → ∀ H', Ex H H' → Q .non H') := by
      rcases hk with ⟨z | z, _⟩ | ⟨rs', n, z, h1, h2, h3, h4⟩ | ⟨rs', z, _, h2, h3⟩
      · cases z
      · cases z; cases l0
      · cases z; exact ⟨n, Nat.le_of_lt h1, h3, fun _ => ⟨h2, h4⟩, fun z => by omega⟩
      · cases z; exact ⟨rs.length, Nat.le_refl _, h2, fun z => absurd z (Nat.lt_irrefl _), fun _ => h3⟩
    refine q_asgL (el_lst ea_nil (by show 0 ≤ 100000; decide)) fun nl H2 nnl e2 hnl => ?_
    have e02 := Same.trans e1 e2
    have nnl0 : H nl = none := fresh_back e1 nnl
    dsimp only [L2.start, List.set]
    refine ⟨_, rfl, for_enumA1 (ha.same e02) (fun i σ' H' => i ≤ N ∧ ∃ u2 u3 u4 : Option V, σ' = [some (.ref a), some (.ref nl), u2, u3, u4] ∧ Same H H' ∧ H' nl = some (.lst ((namesOf rs i).map V.str))) ⟨Nat.zero_le _, _, _, _, rfl, e02, hnl⟩ (fun i σ' H' _ ⟨_, _, _, _, _, e, _⟩ o ho => ?_) ?_ ?_⟩
    · rcases ha with h | h
      · rw [e02 _ _ h] at ho
        cases ho
        exact e _ _ h
      · rw [e02 _ _ h] at ho
        cases ho
        exact e _ _ h
    · rintro i x σ' H3 H4 hi ⟨hid, u2, u3, u4, rfl, e, hn⟩ ⟨tpa, x1, x2, rfl, nT, rfl, hx1, hx2⟩
      cases (Option.some.inj hx1)
      have hif : i < rs.length := by omega
      obtain ⟨r, hz⟩ : ∃ z, rs[i]? = some z := ⟨_, List.getElem?_eq_getElem hif⟩
      obtain ⟨v, hv, hf⟩ := hR.at_ i _ hz
      have hx2 : xs[i]? = some x2 := hx2
      obtain rfl : v = x2 := Option.some.inj (hv.symm.trans hx2)
      have eT := Same.upd' nT (o := .tup [.int (i : Nat), v])
      have e4 := Same.trans e eT
      have hn4 := eT _ _ hn
      refine ⟨tpa, _, rfl, SqT.of upd_same, rfl, _, _, rfl, _, _, rfl, rfl, ?_⟩
      dsimp only [List.set]
      generalize upd H3 tpa (.tup [.int (i : Nat), v]) = H4 at e4 hn4 ⊢
      have hwy : (if (namesOf rs i).length = 3 then V.str "field" else wrongR (namesOf rs i) r) = whyP rs i := by
        unfold whyP
        rw [List.getD_eq_getElem?_getD, hz]
        rfl
      refine sq_go1 ⟨_, rfl, _, rfl, v, nl, r, namesOf rs i, rfl, hf.ex e4, hn4, fun H5 e5 => ?_⟩
      rw [hwy]
      dsimp only [gName, List.set]
      refine q_when (et_test (ev_notN (x := whyP rs i) (ev_var rfl))) (fun hb6 H6 e6 => ?_) fun hb6 H6 e6 => ?_
      · have hNi : N = i := by
          rcases Nat.lt_or_ge i N with h | h
          · rw [hlo i h] at hb6; simp at hb6
          · omega
        subst hNi
        exact go_mkO2 (ev_var rfl) (ev_var rfl) fun H7 dd e7 ndd => (hbad hif).2 H7 dd (Same.trans e4 (Same.trans e5 (Same.trans e6 e7))) ndd
      · have hnon : whyP rs i = .non := by simpa using hb6
        have hlt : i < N := by
          rcases Nat.lt_or_ge i N with h | h
          · exact h
          · have : i = N := by omega
            subst this
            exact absurd hnon (hbad hif).1
        have hwr := hwy.trans hnon
        split at hwr
        · cases hwr
        rename_i h3
        obtain ⟨s, ws, rfl, _, _, _, _⟩ := wrongR_non hwr
        rcases hf.ex e4 with ⟨p, ys, rfl, hy, _, he⟩ | ⟨_, he⟩
        rotate_left
        · cases he
        obtain ⟨y0, yr, rfl⟩ : ∃ y r, ys = y :: r := by cases ys with | nil => cases he | cons y r => exact ⟨y, r, rfl⟩
        have hy0 : y0 = .str s := tx_str (by injection he with he; injection he with he1; exact he1.symm)
        subst hy0
        have e46 := Same.trans e5 e6
        have hln : (namesOf rs i).length = i := by unfold namesOf; rw [List.length_map, List.length_take]; omega
        have hi3 : i < 3 := by
          rcases Nat.lt_or_ge i 3 with h | h
          · exact h
          · exfalso
            have h3n : i ≠ 3 := fun z => h3 (by rw [hln, z])
            have := hlo 3 (by omega)
            unfold whyP at this
            rw [if_pos (by unfold namesOf; rw [List.length_map, List.length_take]; omega)] at this
            cases this
        refine s_app (e46 _ _ hn4) (ev_var rfl) (ev_op (ev_var rfl) ev_c (rv_ixQ1 (n := 0) (hy.same e46) rfl)) (by rw [List.length_map, hln]; omega) fun H7 e7 => ?_
        refine ⟨hlt, _, _, _, rfl, Same.mut (Same.trans e4 (Same.trans e46 e7)) nnl0, ?_⟩
        have hnm : namesOf rs (i + 1) = namesOf rs i ++ [s] := by
          unfold namesOf
          rw [List.take_succ, hz, List.map_append]
          rfl
        rw [upd_same, hnm, List.map_append]
        rfl
    · rintro σ' H' ⟨hid, u2, u3, u4, rfl, e, _⟩
      exact hend (by omega) H' e
def pairR : Vw → Bool
  | some [o, p] => !outB ways o && (match p with | some s => isW s | none => false)
  | _ => false
def spPairX (K : PySem.W.Frag) : Sp := fun vs H Q _ => ∃ (v : V) (r : Vw), vs = [v] ∧ FvAt K H v r ∧ ∀ H', Ex H H' → Q (.bl (pairR r)) H'
theorem ok_pair_x {C0 W0 fR fI : Addr} {fdR fdI : FuncData} {tM : Tok} (F : L2.Fun K "is_pair_shown" "is_pair_shown" s_is_pair_shown f fd) (T : Blt mg) (T' : RlCst mg C0 W0 tM) (hW : ∀ H, SqT K H W0 (ways.map V.str)) (D_is_row : DefOk P w K mg base 1 "is_row" fR fdR ["x"] (spIsRowA K)) (D_is_word : DefOk P w K mg base 1 "is_word" fI fdI ["x"] (spIsWordA K)) :
    FnOk P w K mg base CX0 2 f fd ["show"] (spPairX K) := by
  refine F.ok sc_is_pair_shown (fun vs H Q E h => ?_) (fun cdv A outer s H vs Q E hr h => ?_)
  · obtain ⟨v, r, rfl, _⟩ := h
    rfl
  · obtain ⟨v, r, rfl, hf, k⟩ := h
    refine ⟨_, (pss_one (ps_ret (pe_and (pe_d D_is_row (hr.mono (by decide)) (pa_cons (pv 0) pa_nil)) (pe_and (pe_cmpR op_eq (pe_callB call_len_seq (by rfl) T.b_len PySem.boot_len (pa_cons (pv 0) pa_nil)) pe_int (nomark _)) (pe_and (pe_cmpR (op_inT hr.units) (pe_ix ix_seq (pv 0) pe_int (fun _ _ => rfl)) (pe_glob (v := .ref W0) rfl T'.g_WAYS rfl) (by rfl)) (pe_one (pe_d D_is_word (hr.mono (by decide)) (pa_cons (pe_ix ix_seq (pv 0) pe_int (fun _ _ => rfl)) pa_nil)))))))), ?_⟩
    rcases id hf with ⟨a, xs, rfl, ha, ho, rfl⟩ | ⟨hno, rfl⟩
    rotate_left
    · exact s_ret (ev_andV (b := false) (isr_call (ev_var rfl) hf) fun z => nomatch z) fun H1 e1 => k H1 e1
    have hln : decide (V.int (xs.length : Int) = V.int 2) = decide (xs.length = 2) := by
      have : (V.int (xs.length : Int) = V.int 2) = (xs.length = 2) := propext ⟨fun z => by have := V.int.inj z; omega, fun z => by rw [z]; rfl⟩
      simp only [this]
    have hlE : Ev (tOp rEq (tCB (rLenS K) (tCons (tVar 0) tNil)) (tC (.int 2))) [some (V.ref a)] H (.bl (decide (xs.length = 2))) := ev_is (ev_op (ev_lenQ1 (xs := xs) (ev_var rfl) ha) ev_c (rv_eq rfl)) (congrArg V.bl hln)
    have kp : pairR (some (xs.map tx)) = (decide (xs.length = 2) && (!outB ways (tx (xs.getD 0 .non)) && isWV (xs.getD 1 .non))) := by
      match xs with
      | [] => rfl
      | [x] => rfl
      | [x, y] =>
        show (!outB ways (tx x) && (match tx y with | some s => isW s | none => false)) = (true && (!outB ways (tx x) && isWV y))
        rw [Bool.true_and]
        cases y <;> rfl
      | x :: y :: z :: r => rw [decide_eq_false (by simp)]; rfl
    rw [kp] at k
    refine s_ret (ev_is (ev_andV (isr_call (ev_var rfl) hf) fun _ => ev_andV hlE fun h2 => ?_) rfl) fun H1 e1 => k H1 e1
    have h2 := of_decide_eq_true h2
    have ix : ∀ {H1 : Hp} (i : Nat), i < 2 → Ex H H1 → Ev (tOp (rIx K) (tVar 0) (tC (.int (i : Nat)))) [some (.ref a)] H1 (xs.getD i .non) := fun i hi e => ev_op (ev_var rfl) ev_c (rv_ixQ1 (ha.same e) (by
      rw [List.getD_eq_getElem?_getD, List.getElem?_eq_getElem (by omega)]
      rfl))
    have hm : ∀ i, i < 2 → xs.getD i .non ∈ xs := fun i hi => by
      rw [List.getD_eq_getElem?_getD, List.getElem?_eq_getElem (by omega)]
      exact List.getElem_mem _
    refine ev_andV (fun H1 e1 Q q => ix 0 (by decide) e1 H1 (Ex.refl _) _ fun H2 e2 => ⟨W0, ways, rfl, .inl (hW H2), ((ho _ (hm 0 (by decide))).1.ex e1).ex e2, ?_⟩) fun _ => isw_call (ix 1 (by decide) (Ex.refl _)) (ho _ (hm 1 (by decide))).2
    rw [if_neg (by simp)]
    have : decide (xs.getD 0 .non ∈ ways.map V.str) = !outB ways (tx (xs.getD 0 .non)) := by rw [← mem_txt, Bool.not_not]
    rw [this]
    exact q H2 e2
/-- whether a row shows one of some names -/
def shownR (names : List Str) (r : Vw) : Bool := pairR r && (match r with | some [_, some s] => decide (s ∈ names) | _ => false)
/-- Rule(..) refused -/
def spRlInitX (K : PySem.W.Frag) (C : Addr) : Sp := fun vs H _ E => ∃ (p : Addr) (v b : V) (o : Option (List Vw)), vs = [.ref p, v, b] ∧ FsAt K H v o ∧
  (((o = none ∨ o = some []) ∧ Rs2 C (.str "field") (.int 0) H E) ∨
   (∃ rs n, o = some rs ∧ n < rs.length ∧ whyP rs n ≠ .non ∧ (∀ i, i < n → whyP rs i = .non) ∧ Rs2 C (whyP rs n) (.int (n : Nat)) H E) ∨
   (∃ rs r, o = some rs ∧ 0 < rs.length ∧ (∀ i, i < rs.length → whyP rs i = .non) ∧ FvAt K H b r ∧ shownR (namesOf rs rs.length) r = false ∧ Rs2 C (.str "show") .non H E))
theorem ok_rl_initX {C fR fS fI : Addr} {fdR fdS fdI : FuncData} (F : L2.Fun K "__init__" "Rule.__init__" s_Rule_init f fd) (T : Blt mg) (TB : ErrF2 K mg "BadRule" C fI "index" "reason") (IB : ErrI2 P w K mg base C fI fdI "index" "reason") (D_require_fields : DefOkX P w K mg base 3 "require_fields" fR fdR ["fields"] (spReqX K C)) (D_is_pair_shown : DefOk P w K mg base 2 "is_pair_shown" fS fdS ["show"] (spPairX K)) :
    FnOk P w K mg base (L2.CX P w) 4 f fd ["self", "fields", "show"] (spRlInitX K C) := by
  refine F.okX sc_Rule_init (fun vs H Q E h => ?_) (fun cdv A outer s H vs Q E hr h => ?_)
  · obtain ⟨p, v, b, o, rfl, _⟩ := h
    rfl
  · obtain ⟨p, v, b, o, rfl, hfs, hk⟩ := h
    refine ⟨_, (pss_cons (ps_expr (pe_dX D_require_fields (hr.mono (by decide)) (passes_call (takes_of rfl rfl rfl rfl) (fun _ _ _ _ h => h)) (pa_cons (pv 1) pa_nil)))
        (pss_cons (ps_setLc (i := 3) (own := [("field", 4)]) (g := gName 4) (tt := tYes) (te := (tOp (rIx K) (tVar 4) (tC (.int 0)))) rfl sc_Rule_init.nd rfl rfl (sw_true rfl rfl rfl (by decide +kernel)) (pi_or (pi_list (pv 1)) (pi_tup (pv 1))) (blkOk_by (own := [("field", 4)]) (by kernel_rfl)) (fun _ _ _ _ _ => (pg_name (i := 4) sc_Rule_init.nd rfl (by first | exact Or.inl rfl | exact Or.inr rfl))) (fun _ _ _ _ _ => pts_nil) (fun _ _ _ _ _ => by exact (pe_ix ix_seq (pv 4) pe_int (fun _ _ => rfl))))
        (pss_cons (ps_if (PW.pt (pw_or (pt_not (pt_val (pe_d D_is_pair_shown (hr.mono (by decide)) (pa_cons (pv 2) pa_nil)))) (pw_or1 (pt_cmpR op_notIn_seq (pe_ix ix_seq (pv 2) pe_int (fun _ _ => rfl)) (pv 3) (by rfl))))) (pss_one (ps_raise rfl (takes_of rfl rfl rfl rfl) (pmk_errF2 TB IB (hr.mono (by decide)) (pa_cons pe_non (pa_cons pe_str pa_nil))))) pss_nil)
        (pss_cons (ps_fld (pv 0) (pe_callTy call_tuple_of (by rfl) T.b_tuple (by decide +kernel) (by exact (pa_cons (pe_lc (own := [("field", 4)]) (g := gName 4) (tt := tYes) (te := (tCB (rTupOf K) (tCons (tVar 4) tNil))) rfl sc_Rule_init.nd (pi_or (pi_list (pv 1)) (pi_tup (pv 1))) (blkOk_by (own := [("field", 4)]) (by kernel_rfl)) (fun _ _ _ _ _ => (pg_name (i := 4) sc_Rule_init.nd rfl (by first | exact Or.inl rfl | exact Or.inr rfl))) (fun _ _ _ _ _ => pts_nil) (fun _ _ _ _ _ => by exact (pe_callTy call_tuple_of (by rfl) T.b_tuple (by decide +kernel) (pa_cons (pv 4) pa_nil)))) pa_nil))) rfl)
        (pss_cons (ps_fld (pv 0) (pe_ix ix_seq (pv 2) pe_int (fun _ _ => rfl)) rfl)
        (pss_one (ps_fld (pv 0) (pe_bm PySem.F.plainAttrs_list PySem.F.slot_list_index PySem.F.type_list_index mt_index (pv 3) (pa_cons (pe_ix ix_seq (pv 2) pe_int (fun _ _ => rfl)) pa_nil)) rfl))))))), ?_⟩
    refine ⟨_, rfl, v, o, rfl, hfs, ?_⟩
    rcases hk with ⟨ho, k⟩ | ⟨rs, n, rfl, h1, h2, h3, k⟩ | ⟨rs, r, rfl, l0, hw, hf, hsh, k⟩
    · exact .inl ⟨ho, fun H' d e nd => k H' d e nd⟩
    · exact .inr (.inl ⟨rs, n, rfl, h1, h2, h3, fun H' d e nd => k H' d e nd⟩)
    refine .inr (.inr ⟨rs, rfl, l0, hw, fun H1 e1 => ?_⟩)
    rcases hfs with ⟨a, xs, rs', rfl, ha, hR, he⟩ | ⟨_, he⟩
    rotate_left
    · cases he
    cases he
    obtain ⟨l, hz, hok, hrs⟩ := rows_good hR l0 hw
    have hnm : namesOf rs rs.length = (fsOf l).map fun z => z.1 := by
      unfold namesOf
      rw [List.take_length, hrs, List.map_map]
      rfl
    rw [hnm] at hsh
    have l3 := hok.l3
    have ll : (fsOf l).length = l.length := by unfold fsOf; rw [List.length_map]
    have ha1 := ha.same e1
    rw [hz.1] at ha1
    dsimp only [L2.start]
    refine q_asgL (xs := (((fsOf l).map fun z => z.1).map V.str)) ?_ fun nl H2 nnl e2 hnl => ?_
    · have := el_mapS (K := K) (σ := [some (.ref p), some (.ref a), some b, none, none]) (H := H1) (te := (tOp (rIx K) (tVar 4) (tC (.int 0)))) (tl := tVar 1) (l := l) (f := fun z => V.ref z.1) (g := fun z => V.str z.2.1) (j := 4) (ev_var rfl) ha1 (by omega) fun x hx H2 e2 => ev_op (ev_var rfl) ev_c (rv_ixQ1 (n := 0) (seq_same (hz.2 x hx) (Same.trans e1 e2)) rfl)
      unfold fsOf
      rw [List.map_map, List.map_map]
      exact this
    have e02 := Same.trans e1 e2
    have hf2 := hf.ex e02
    have isp : Ev (tCall (spPairX K) [] E0 (tCons (tVar 2) tNil)) [some (.ref p), some (.ref a), some b, some (.ref nl), none] H2 (.bl (pairR r)) := fun H3 e3 Q q => ⟨_, rfl, b, r, rfl, hf2.ex e3, fun H' e => q H' e⟩
    refine q_when (b := true) (?_ : EvT _ _ _ _) (fun _ H3 e3 => go_mkO2 ev_c ev_c fun H7 dd e7 ndd => k H7 dd (Same.trans e02 (Same.trans e3 e7)) ndd) (fun z => nomatch z)
    cases hp : pairR r with
    | false =>
      have isp' : Ev (tCall (spPairX K) [] E0 (tCons (tVar 2) tNil)) [some (.ref p), some (.ref a), some b, some (.ref nl), none] H2 (.bl false) := ev_is isp (by rw [hp])
      exact et_or (b := true) (et_not (et_B isp')) fun z => nomatch z
    | true =>
      unfold shownR at hsh
      rw [hp, Bool.true_and] at hsh
      rcases hf2 with ⟨c, ys, rfl, hy, _, rfl⟩ | ⟨_, rfl⟩
      rotate_left
      · cases hp
      match ys, hy, hp, hsh, isp with
      | [], _, hp, _, _ => cases hp
      | [_], _, hp, _, _ => cases hp
      | _ :: _ :: _ :: _, _, hp, _, _ => cases hp
      | [y0, y1], hy, hp, hsh, isp =>
        obtain ⟨s, rfl⟩ : ∃ s, y1 = .str s := by
          have : (!outB ways (tx y0) && (match tx y1 with | some s => isW s | none => false)) = true := hp
          cases y1 with
          | str s => exact ⟨s, rfl⟩
          | _ => rw [show (match tx _ with | some s => isW s | none => false) = false from rfl, Bool.and_false] at this; cases this
        have hno : decide (s ∈ (fsOf l).map fun z => z.1) = false := hsh
        refine et_is (et_or (et_not (et_B (ev_is isp (by rw [hp])))) fun _ => et_test (ev_is (ev_op (ev_op (ev_var rfl) ev_c (rv_ixQ1 (n := 1) hy rfl)) (ev_var rfl) (rv_inL (neg := true) (sq_of hnl) rfl (strs_flat1 _))) (by
          rw [strs_in1, hno]))) rfl
end
end Lm

namespace Lm
open PySem L2 Evl RZ
/-! ### odd things -/
/-- flat ones -/
def OdF (v : V) : Prop := (∃ s : Str, v = .str s ∧ s.cps.size ≤ 9 ∧ (s.cps.toList.all fun c => decide (c < 16 ^ 8)) = true) ∨ v = .non ∨ (∃ b, v = .bl b) ∨ ∃ i : Int, v = .int i ∧ i.natAbs < 2 ^ 64
def OdL (xs : List V) : Prop := xs.length ≤ 9 ∧ ∀ x ∈ xs, OdF x
/-- an object of any kind, of the objects B -/
def Od (B : Addr → Prop) (H : Hp) (v : V) : Prop := OdF v ∨ ∃ a, v = .ref a ∧ B a ∧ ((∃ xs, H a = some (.tup xs) ∧ OdL xs) ∨ (∃ xs, H a = some (.lst xs) ∧ OdL xs) ∨ H a = some (.dK [((.inr "a" : Key), .str "a")]))
theorem Od.mono {B B' : Addr → Prop} {H H' : Hp} {v : V} (e : ∀ a o, B a → H a = some o → (∀ ps, o ≠ .tbl ps) → B' a ∧ H' a = some o) (h : Od B H v) : Od B' H' v := by
  rcases h with h | ⟨a, rfl, hb, h⟩
  · exact .inl h
  · refine .inr ⟨a, rfl, ?_⟩
    rcases h with ⟨xs, h, hl⟩ | ⟨xs, h, hl⟩ | h
    · obtain ⟨q1, q2⟩ := e a _ hb h (fun _ z => by cases z)
      exact ⟨q1, .inl ⟨xs, q2, hl⟩⟩
    · obtain ⟨q1, q2⟩ := e a _ hb h (fun _ z => by cases z)
      exact ⟨q1, .inr (.inl ⟨xs, q2, hl⟩)⟩
    · obtain ⟨q1, q2⟩ := e a _ hb h (fun _ z => by cases z)
      exact ⟨q1, .inr (.inr q2)⟩
theorem Od.ex {B : Addr → Prop} {H H' : Hp} {v : V} (e : Ex H H') (h : Od B H v) : Od B H' v := h.mono fun a o b q _ => ⟨b, e _ _ q⟩
theorem Od.imp {B B' : Addr → Prop} {H : Hp} {v : V} (e : ∀ a, B a → H a ≠ none → B' a) (h : Od B H v) : Od B' H v := h.mono fun a o b q _ => ⟨e a b (by rw [q]; simp), q⟩
theorem Od.cases {B : Addr → Prop} {H : Hp} {v : V} (h : Od B H v) : OdF v ∨ ∃ a, v = .ref a := Or.imp id (fun ⟨a, e, _⟩ => ⟨a, e⟩) h
theorem OdF.flt {v : V} (h : OdF v) : flt v := by
  rcases h with ⟨s, rfl, _⟩ | rfl | ⟨b, rfl⟩ | ⟨i, rfl, _⟩
  · exact .inr (.inr (.inl ⟨_, rfl⟩))
  · exact .inr (.inr (.inr rfl))
  · exact .inr (.inl ⟨_, rfl⟩)
  · exact .inl ⟨_, rfl⟩
theorem OdF.fl {v : V} (h : OdF v) : flatV v = true := by
  rcases h with ⟨s, rfl, _⟩ | rfl | ⟨b, rfl⟩ | ⟨i, rfl, _⟩ <;> rfl
theorem Od.odd {B : Addr → Prop} {H : Hp} {v : V} (h : Od B H v) : OddV H v := by
  rcases h with h | ⟨a, rfl, _, h⟩
  · exact .inl h.fl
  · refine .inr ⟨a, rfl, ?_⟩
    rcases h with ⟨xs, h, hl⟩ | ⟨xs, h, hl⟩ | h
    · exact .inr (.inl ⟨_, h⟩)
    · exact .inl ⟨_, h⟩
    · exact .inr (.inr ⟨_, h⟩)
theorem Od.same {B : Addr → Prop} {H : Hp} {v : V} {d : Nat} (h : Od B H v) : SameV H (d + 2) v v := by
  rcases h with h | ⟨a, rfl, _, h⟩
  · exact h.flt.same
  · rcases h with ⟨xs, h, l, hl⟩ | ⟨xs, h, l, hl⟩ | h
    · exact .tup h h rfl (by omega) fun i u v q1 q2 => by
        rw [q1] at q2
        cases (Option.some.inj q2)
        exact (hl u (List.mem_of_getElem? q1)).flt.same
    · exact .lst h h rfl (by omega) fun i u v q1 q2 => by
        rw [q1] at q2
        cases (Option.some.inj q2)
        exact (hl u (List.mem_of_getElem? q1)).flt.same
    · exact .dct h (by simp)
theorem Od.wd {K : PySem.W.Frag} {B : Addr → Prop} {H : Hp} {v : V} (h : Od B H v) : WdV K H v (isWV v) := by
  rcases h with h | ⟨a, rfl, _, h⟩
  · rcases h with ⟨s, rfl, h, _⟩ | rfl | ⟨b, rfl⟩ | ⟨i, rfl, _⟩
    · exact .inl ⟨s, rfl, by omega, rfl⟩
    · exact .inr ⟨⟨_, fun _ _ => .base .non, kit_ty (by decide +kernel)⟩, rfl⟩
    · exact .inr ⟨⟨_, fun _ _ => .base (.bl b), kit_ty (by decide +kernel)⟩, rfl⟩
    · exact .inr ⟨⟨_, fun _ _ => .base (.int i), kit_ty (by decide +kernel)⟩, rfl⟩
  · refine .inr ⟨?_, rfl⟩
    rcases h with ⟨xs, h, hl⟩ | ⟨xs, h, hl⟩ | h
    · exact ⟨_, fun H' e => .base (.tup (e _ _ h)), kit_ty (by decide +kernel)⟩
    · exact ⟨_, fun H' e => .base (.lst (e _ _ h)), kit_ty (by decide +kernel)⟩
    · exact ⟨_, fun H' e => .base (.dK (e _ _ h)), kit_ty (by decide +kernel)⟩
/-- read as data, small enough to be shown -/
theorem OdF.dat {K : PySem.W.Frag} {H : Hp} {v : V} (h : OdF v) : ∃ d, Dp K H v d ∧ ShOk d 0 65 := by
  rcases h with ⟨s, rfl, h, h2⟩ | rfl | ⟨b, rfl⟩ | ⟨i, rfl, h⟩
  · exact ⟨.str s, .str s, (ShOk.str h2).mono (Nat.le_refl _) (by omega)⟩
  · exact ⟨.none, .non, ShOk.none.mono (Nat.le_refl _) (by omega)⟩
  · exact ⟨.bool b, .bl b, ShOk.bool.mono (Nat.le_refl _) (by omega)⟩
  · exact ⟨.int i, .int i, ShOk.int h⟩
theorem OdF.dats {K : PySem.W.Frag} {H : Hp} : ∀ {xs : List V}, (∀ x ∈ xs, OdF x) → ∃ ds, DpAll K H xs ds ∧ (∀ d ∈ ds, ShOk d 0 65) ∧ ds.length = xs.length
  | [], _ => ⟨[], .nil, (fun _ z => by cases z), rfl⟩
  | x :: xs, h => by
    obtain ⟨d, h1, h2⟩ := (h x List.mem_cons_self).dat (K := K) (H := H)
    obtain ⟨ds, g1, g2, g3⟩ := OdF.dats (K := K) (H := H) (xs := xs) fun y hy => h y (List.mem_cons_of_mem _ hy)
    exact ⟨d :: ds, .cons h1 g1, fun z hz => (List.mem_cons.mp hz).elim (fun e => e ▸ h2) (g2 z), by simp [g3]⟩
theorem Od.dat {K : PySem.W.Frag} {B : Addr → Prop} {H : Hp} {v : V} (h : Od B H v) : ∃ d, ItD K H v d ∧ ShOk d 1 600 := by
  rcases h with h | ⟨a, rfl, _, h⟩
  · obtain ⟨d, h1, h2⟩ := h.dat (K := K) (H := H)
    exact ⟨d, .inl h1, h2.mono (by omega) (by omega)⟩
  · rcases h with ⟨xs, h, l, hl⟩ | ⟨xs, h, l, hl⟩ | h
    · obtain ⟨ds, g1, g2, g3⟩ := OdF.dats (K := K) (H := H) hl
      refine ⟨_, .inl (Dp.seq false h g1), (ShOk.seq false g2).mono (by omega) ?_⟩
      rw [g3]; omega
    · obtain ⟨ds, g1, g2, g3⟩ := OdF.dats (K := K) (H := H) hl
      refine ⟨_, .inl (Dp.seq true h g1), (ShOk.seq true g2).mono (by omega) ?_⟩
      rw [g3]; omega
    · exact ⟨_, .inr ⟨a, _, _, rfl, h, .cons (d := .str "a") rfl .nil, rfl⟩, by constructor <;> decide +kernel⟩
def oddL1 (p1 p2 p3 p4 : Addr) : List V := [.str "", .str "A", .str "a1", .str "abcdefghi", .str "a b", .str "a_", .str "a\n", .str " a", .int 5, .int 0, .non, .bl true, .ref p1, .ref p2, .ref p3, .ref p4]
section
variable {P : Program} {w : World} {K : PySem.W.Frag} {mg : Str → Option Value} {base : Heap} {f : Addr} {fd : FuncData}
def spOdd : Sp := fun vs H Q _ => ∃ (st c : Addr), vs = [.ref st] ∧ StAt H st c ∧ ∀ v H', StAt H' st c → Kp st H H' → Od (fun a => H a = none) H' v → isWV v = false → Q v H'
abbrev s_odd : Stmt := top 26
theorem sc_odd : FnScope ["_law_state", "_law_some"] ["_law_state"] (defScope s_odd) := ⟨rfl, rfl, rfl, by decide +kernel, rfl, by decide +kernel, by decide +kernel⟩
theorem ok_odd {fO : Addr} {fdO : FuncData} (F : L2.Fun K "_law_odd" "_law_odd" s_odd f fd) (D_one : DefOk P w K mg base 3 "_law_one" fO fdO ["_law_state", "_law_things"] (spOneA K)) : FnOk P w K mg base CX0 4 f fd ["_law_state"] spOdd := by
  refine F.ok sc_odd (fun vs H Q E h => ?_) (fun cdv A outer s H vs Q E hr h => ?_)
  · obtain ⟨st, c, rfl, _⟩ := h
    rfl
  · obtain ⟨st, c, rfl, S, k⟩ := h
    refine ⟨_, (pss_cons (ps_set (i := 1) sc_odd.nd rfl (by first | exact Or.inl rfl | exact Or.inr rfl) (pe_lst (pa_cons pe_str (pa_cons pe_str (pa_cons pe_str (pa_cons pe_str (pa_cons pe_str (pa_cons pe_str (pa_cons pe_str (pa_cons pe_str (pa_cons pe_int (pa_cons pe_int (pa_cons pe_non (pa_cons pe_bl (pa_cons (pe_tup pa_nil) (pa_cons (pe_tup (pa_cons pe_str pa_nil)) (pa_cons (pe_lst (pa_cons pe_str pa_nil)) (pa_cons (pe_disp (pps_cons pe_str pe_str pps_nil) (by rfl) (by rfl) (fun z => by cases z) (by decide)) pa_nil))))))))))))))))))
        (pss_one (ps_ret (pe_d D_one (hr.mono (by decide)) (pa_cons (pv 0) (pa_cons (pe_op op_cat (pv 1) (pe_lst (pa_cons pe_str (pa_cons pe_str (pa_cons (pe_lst (pa_cons pe_str (pa_cons pe_int pa_nil))) pa_nil))))) pa_nil)))))), ?_⟩
    refine ⟨by show 0 ≤ sizeLine; decide, fun p1 n1 => ⟨by show 1 ≤ sizeLine; decide, fun p2 n2 => ⟨by show 1 ≤ sizeLine; decide, fun p3 n3 => ?_⟩⟩⟩
    intro p4 n4
    refine ⟨upd_same, [(.inr "a", .str "a")], rfl, by show 1 ≤ 15; decide, by show 16 ≤ sizeLine; decide, fun l nl => ?_⟩
    obtain ⟨q1, q2, q3, q4⟩ : H p1 = none ∧ H p2 = none ∧ H p3 = none ∧ H p4 = none := ⟨n1, fresh_back (Ex.new n1) n2, fresh_back (Ex.new n1) (fresh_back (Ex.new n2) n3), fresh_back (Ex.new n1) (fresh_back (Ex.new n2) (fresh_back (Ex.new n3) n4))⟩
    have e1 : Ex H (upd H p1 (.tup [])) := Ex.new n1
    have g1 : (upd H p1 (.tup [])) p1 = some (.tup []) := upd_same
    generalize upd H p1 (.tup []) = H1 at *
    have e2 : Ex H1 (upd H1 p2 (.tup [.str "a"])) := Ex.new n2
    have g2 : (upd H1 p2 (.tup [.str "a"])) p2 = some (.tup [.str "a"]) := upd_same
    generalize upd H1 p2 (.tup [.str "a"]) = H2 at *
    have e3 : Ex H2 (upd H2 p3 (.lst [.str "a"])) := Ex.new n3
    have g3 : (upd H2 p3 (.lst [.str "a"])) p3 = some (.lst [.str "a"]) := upd_same
    generalize upd H2 p3 (.lst [.str "a"]) = H3 at *
    have e4 : Ex H3 (upd (upd H3 p4 (.dK [])) p4 (.dK (mergeK [] [((.inr "a" : Key), .str "a")]))) := Ex.mut (Ex.new n4) n4
    have g4 : (upd (upd H3 p4 (.dK [])) p4 (.dK (mergeK [] [((.inr "a" : Key), .str "a")]))) p4 = some (.dK [((.inr "a" : Key), .str "a")]) := upd_same
    generalize upd (upd H3 p4 (.dK [])) p4 (.dK (mergeK [] [((.inr "a" : Key), .str "a")])) = H4 at *
    have e5 : Ex H4 (upd H4 l (.lst (oddL1 p1 p2 p3 p4))) := Ex.new nl
    have g5 : (upd H4 l (.lst (oddL1 p1 p2 p3 p4))) l = some (.lst (oddL1 p1 p2 p3 p4)) := upd_same
    refine ⟨_, rfl, _, rfl, ?_⟩
    show tLst _ _ (upd H4 l (.lst (oddL1 p1 p2 p3 p4))) _
    generalize upd H4 l (.lst (oddL1 p1 p2 p3 p4)) = H5 at *
    refine ⟨by show 2 ≤ sizeLine; decide, fun p5 n5 => ?_⟩
    have e6 : Ex H5 (upd H5 p5 (.lst [.str "b", .int 1])) := Ex.new n5
    have g6 : (upd H5 p5 (.lst [.str "b", .int 1])) p5 = some (.lst [.str "b", .int 1]) := upd_same
    refine ⟨by show 3 ≤ sizeLine; decide, ?_⟩
    generalize upd H5 p5 (.lst [.str "b", .int 1]) = H6 at *
    intro p6 n6
    have e7 : Ex H6 (upd H6 p6 (.lst [.str "-", .str "aB", .ref p5])) := Ex.new n6
    have g7 : (upd H6 p6 (.lst [.str "-", .str "aB", .ref p5])) p6 = some (.lst [.str "-", .str "aB", .ref p5]) := upd_same
    have E5 : Ex H H5 := Ex.trans e1 (Ex.trans e2 (Ex.trans e3 (Ex.trans e4 e5)))
    have q5 : H p5 = none := fresh_back E5 n5
    have E7 : Ex H (upd H6 p6 (.lst [.str "-", .str "aB", .ref p5])) := Ex.trans E5 (Ex.trans e6 e7)
    have S7 := S.same E7
    have w1 := e7 _ _ (e6 _ _ (e5 _ _ (e4 _ _ (e3 _ _ (e2 _ _ g1)))))
    have w2 := e7 _ _ (e6 _ _ (e5 _ _ (e4 _ _ (e3 _ _ g2))))
    have w3 := e7 _ _ (e6 _ _ (e5 _ _ (e4 _ _ g3)))
    have w4 := e7 _ _ (e6 _ _ (e5 _ _ g4))
    have w5 := e7 _ _ (e6 _ _ g5)
    have w6 := e7 _ _ g6
    refine ⟨l, p6, oddL1 p1 p2 p3 p4, _, rfl, rfl, w5, g7, by show 19 ≤ sizeLine; decide, ?_⟩
    generalize upd H6 p6 (.lst [.str "-", .str "aB", .ref p5]) = H7 at *
    intro p7 n7
    have e8 : Ex H7 (upd H7 p7 (.lst (oddL1 p1 p2 p3 p4 ++ [.str "-", .str "aB", .ref p5]))) := Ex.new n7
    refine ⟨st, c, p7, _, rfl, S7.same e8, (S7.of_new n7).1, .inl (SqL.of upd_same), by show 0 < 19; decide, by show 19 < _; decide, fun v H' hv S' e' => k v H' S' ((Kp.of (Ex.trans E7 e8)).trans e') ?_ ?_⟩
    rotate_left
    · simp only [oddL1, List.cons_append, List.nil_append, List.mem_cons, List.not_mem_nil, or_false] at hv
      rcases hv with rfl | rfl | rfl | rfl | rfl | rfl | rfl | rfl | rfl | rfl | rfl | rfl | rfl | rfl | rfl | rfl | rfl | rfl | rfl <;> first | rfl | decide +kernel
    have kp : ∀ {p : Addr} {o : HO}, H p = none → H7 p = some o → H' p = some o := fun {p o} n h => e' _ _ (by
      obtain ⟨ys, hs⟩ := S.neL
      exact (ne_of_none hs n).symm) (e8 _ _ h)
    have fl : ∀ s : Str, s.cps.size ≤ 9 → (s.cps.toList.all fun c => decide (c < 16 ^ 8)) = true → Od (fun a => H a = none) H' (.str s) := fun s h1 h2 => .inl (.inl ⟨s, rfl, h1, h2⟩)
    have fa : OdF (.str "a") := .inl ⟨_, rfl, by decide +kernel, by decide +kernel⟩
    have fb : OdF (.str "b") := .inl ⟨_, rfl, by decide +kernel, by decide +kernel⟩
    have fi : OdF (.int 1) := .inr (.inr (.inr ⟨1, rfl, by decide⟩))
    simp only [oddL1, List.cons_append, List.nil_append, List.mem_cons, List.not_mem_nil, or_false] at hv
    rcases hv with rfl | rfl | rfl | rfl | rfl | rfl | rfl | rfl | rfl | rfl | rfl | rfl | rfl | rfl | rfl | rfl | rfl | rfl | rfl
    · exact fl _ (by decide +kernel) (by decide +kernel)
    · exact fl _ (by decide +kernel) (by decide +kernel)
    · exact fl _ (by decide +kernel) (by decide +kernel)
    · exact fl _ (by decide +kernel) (by decide +kernel)
    · exact fl _ (by decide +kernel) (by decide +kernel)
    · exact fl _ (by decide +kernel) (by decide +kernel)
    · exact fl _ (by decide +kernel) (by decide +kernel)
    · exact fl _ (by decide +kernel) (by decide +kernel)
    · exact .inl (.inr (.inr (.inr ⟨_, rfl, by decide⟩)))
    · exact .inl (.inr (.inr (.inr ⟨_, rfl, by decide⟩)))
    · exact .inl (.inr (.inl rfl))
    · exact .inl (.inr (.inr (.inl ⟨_, rfl⟩)))
    · exact .inr ⟨p1, rfl, q1, .inl ⟨_, kp q1 w1, by decide, fun x hx => by cases hx⟩⟩
    · exact .inr ⟨p2, rfl, q2, .inl ⟨_, kp q2 w2, by show 1 ≤ 9; decide, fun x hx => by rw [List.mem_singleton.mp hx]; exact fa⟩⟩
    · exact .inr ⟨p3, rfl, q3, .inr (.inl ⟨_, kp q3 w3, by show 1 ≤ 9; decide, fun x hx => by rw [List.mem_singleton.mp hx]; exact fa⟩)⟩
    · exact .inr ⟨p4, rfl, q4, .inr (.inr (kp q4 w4))⟩
    · exact fl _ (by decide +kernel) (by decide +kernel)
    · exact fl _ (by decide +kernel) (by decide +kernel)
    · exact .inr ⟨p5, rfl, q5, .inr (.inl ⟨_, kp q5 w6, by show 2 ≤ 9; decide, fun x hx => by
        simp only [List.mem_cons, List.not_mem_nil, or_false] at hx
        rcases hx with rfl | rfl
        · exact fb
        · exact fi⟩)⟩
end
end Lm

namespace Lm
open PySem L2 Evl RZ
section
variable {P : Program} {w : World} {K : PySem.W.Frag} {mg : Str → Option Value} {base : Heap} {f : Addr} {fd : FuncData}
def spHanded : Sp := fun vs H Q _ => ∃ (st c a : Addr) (xs : List V), vs = [.ref st, .ref a] ∧ StAt H st c ∧ a ≠ st ∧ H a = some (.lst xs) ∧ ∀ p H', H p = none → StAt H' st c → Kp st H H' → SeqAt H' p xs → Q (.ref p) H'
abbrev s_handed : Stmt := top 25
theorem sc_handed : FnScope ["_law_state", "_law_things"] ["_law_state", "_law_things"] (defScope s_handed) := ⟨rfl, rfl, rfl, by decide +kernel, rfl, by decide +kernel, by decide +kernel⟩
theorem ok_handed {fT : Addr} {fdT : FuncData} (F : Fun K "_law_handed" "_law_handed" s_handed f fd) (T : Blt mg) (D_take : DefOk P w K mg base 2 "_law_take" fT fdT ["_law_state", "_law_many"] spTake) : FnOk P w K mg base CX0 3 f fd ["_law_state", "_law_things"] spHanded := by
  refine F.ok sc_handed (fun vs H Q E h => ?_) (fun cdv A outer s H vs Q E hr h => ?_)
  · obtain ⟨st, c, a, xs, rfl, _⟩ := h
    rfl
  · obtain ⟨st, c, a, xs, rfl, S, hn, ha, k⟩ := h
    refine ⟨_, (pss_one (ps_ret (pe_ifExp (pt_cmpR op_eq (pe_d D_take (hr.mono (by decide)) (pa_cons (pv 0) (pa_cons pe_int pa_nil))) pe_int (nomark _)) (pe_callTy call_list_of (by rfl) T.b_list (by decide +kernel) (pa_cons (pv 1) pa_nil)) (pe_callTy call_tuple_of (by rfl) T.b_tuple (by decide +kernel) (pa_cons (pv 1) pa_nil))))), ?_⟩
    refine ⟨_, rfl, st, c, 2, rfl, S, by decide, by decide, fun d H2 d0 d1 S2 e2 => ?_⟩
    have ha2 := e2 _ _ hn ha
    refine ⟨rfl, _, rfl, ite2 (fun _ => ?_) (fun _ => ?_)⟩
    · exact ⟨_, rfl, a, xs, rfl, .inl (SqL.of ha2), fun l nl => k l _ (e2.free (S2.of_new nl).1 nl) (S2.same (Same.upd' nl)) (e2.trans (Kp.of (Same.upd' nl))) (.inl upd_same)⟩
    · exact ⟨_, rfl, a, xs, rfl, .inl ⟨SqL.of ha2, fun l nl => k l _ (e2.free (S2.of_new nl).1 nl) (S2.same (Same.upd' nl)) (e2.trans (Kp.of (Same.upd' nl))) (.inr upd_same)⟩⟩
end
end Lm

namespace Lm
open PySem L2 Evl RZ
/-! ### rows of things of any kind, and their copies -/
/-- a thing that is handed as it is -/
def T0 (B : Addr → Prop) (H : Hp) (v : V) : Prop := OdF v ∨ ∃ a, v = .ref a ∧ B a ∧ H a = some (.dK [((.inr "a" : Key), .str "a")])
/-- a row of odd things, or a thing that is none -/
def RwO (B : Addr → Prop) (H : Hp) (v : V) (r : Vw) : Prop := (∃ a xs, v = .ref a ∧ B a ∧ SeqAt H a xs ∧ xs.length ≤ 20 ∧ (∀ x ∈ xs, Od B H x) ∧ r = some (xs.map tx)) ∨ (T0 B H v ∧ r = none)
theorem T0.mono {B B' : Addr → Prop} {H H' : Hp} {v : V} (e : ∀ a o, B a → H a = some o → (∀ ps, o ≠ .tbl ps) → B' a ∧ H' a = some o) (h : T0 B H v) : T0 B' H' v := h.imp id fun ⟨a, h1, h2, h3⟩ => let ⟨q1, q2⟩ := e a _ h2 h3 (fun _ z => by cases z); ⟨a, h1, q1, q2⟩
theorem RwO.mono {B B' : Addr → Prop} {H H' : Hp} {v : V} {r : Vw} (e : ∀ a o, B a → H a = some o → (∀ ps, o ≠ .tbl ps) → B' a ∧ H' a = some o) (h : RwO B H v r) : RwO B' H' v r := by
  rcases h with ⟨a, xs, rfl, hb, hq, hl, ho, rfl⟩ | ⟨h, rfl⟩
  · have ho' : ∀ x ∈ xs, Od B' H' x := fun x hx => (ho x hx).mono e
    rcases hq with hq | hq
    · obtain ⟨q1, q2⟩ := e a _ hb hq (fun _ z => by cases z)
      exact .inl ⟨a, xs, rfl, q1, .inl q2, hl, ho', rfl⟩
    · obtain ⟨q1, q2⟩ := e a _ hb hq (fun _ z => by cases z)
      exact .inl ⟨a, xs, rfl, q1, .inr q2, hl, ho', rfl⟩
  · exact .inr ⟨h.mono e, rfl⟩
theorem RwO.ex {B : Addr → Prop} {H H' : Hp} {v : V} {r : Vw} (e : Ex H H') (h : RwO B H v r) : RwO B H' v r := h.mono fun a o b q _ => ⟨b, e _ _ q⟩
theorem RwO.kp {st : Addr} {H H' : Hp} {v : V} {r : Vw} (e : Kp st H H') (h : RwO (fun a => a ≠ st) H v r) : RwO (fun a => a ≠ st) H' v r := h.mono fun a o b q _ => ⟨b, e _ _ b q⟩
theorem Od.kp {st : Addr} {H H' : Hp} {v : V} (e : Kp st H H') (h : Od (fun a => a ≠ st) H v) : Od (fun a => a ≠ st) H' v := h.mono fun a o b q _ => ⟨b, e _ _ b q⟩
theorem Od.rw {B : Addr → Prop} {H : Hp} {v : V} (h : Od B H v) : ∃ r, RwO B H v r := by
  rcases h with h | ⟨a, rfl, hb, h⟩
  · exact ⟨none, .inr ⟨.inl h, rfl⟩⟩
  · rcases h with ⟨xs, h, l, hl⟩ | ⟨xs, h, l, hl⟩ | h
    · exact ⟨_, .inl ⟨a, xs, rfl, hb, .inr h, Nat.le_trans l (by decide), fun x hx => .inl (hl x hx), rfl⟩⟩
    · exact ⟨_, .inl ⟨a, xs, rfl, hb, .inl h, Nat.le_trans l (by decide), fun x hx => .inl (hl x hx), rfl⟩⟩
    · exact ⟨none, .inr ⟨.inr ⟨a, rfl, hb, h⟩, rfl⟩⟩
theorem noRow_T0 {K : PySem.W.Frag} {B : Addr → Prop} {H : Hp} {v : V} (h : T0 B H v) : NoRow K H v := by
  rcases h with (⟨s, rfl, _⟩ | rfl | ⟨b, rfl⟩ | ⟨i, rfl, _⟩) | ⟨a, rfl, _, h⟩
  · exact ⟨_, fun _ _ => .base (.str s), kitAny_cons (b := false) (kit_ty (by decide +kernel)) (fun _ => kitAny_cons (b := false) (kit_ty (by decide +kernel)) (fun _ => kitAny_nil) (fun z => nomatch z)) (fun z => nomatch z)⟩
  · exact ⟨_, fun _ _ => .base .non, kitAny_cons (b := false) (kit_ty (by decide +kernel)) (fun _ => kitAny_cons (b := false) (kit_ty (by decide +kernel)) (fun _ => kitAny_nil) (fun z => nomatch z)) (fun z => nomatch z)⟩
  · exact ⟨_, fun _ _ => .base (.bl b), kitAny_cons (b := false) (kit_ty (by decide +kernel)) (fun _ => kitAny_cons (b := false) (kit_ty (by decide +kernel)) (fun _ => kitAny_nil) (fun z => nomatch z)) (fun z => nomatch z)⟩
  · exact ⟨_, fun _ _ => .base (.int i), kitAny_cons (b := false) (kit_ty (by decide +kernel)) (fun _ => kitAny_cons (b := false) (kit_ty (by decide +kernel)) (fun _ => kitAny_nil) (fun z => nomatch z)) (fun z => nomatch z)⟩
  · exact ⟨_, fun H' e => .base (.dK (e _ _ h)), kitAny_cons (b := false) (kit_ty (by decide +kernel)) (fun _ => kitAny_cons (b := false) (kit_ty (by decide +kernel)) (fun _ => kitAny_nil) (fun z => nomatch z)) (fun z => nomatch z)⟩
theorem RwO.fv {K : PySem.W.Frag} {B : Addr → Prop} {H : Hp} {v : V} {r : Vw} (h : RwO B H v r) : FvAt K H v r := by
  rcases h with ⟨a, xs, rfl, hb, hq, hl, ho, rfl⟩ | ⟨h, rfl⟩
  · exact .inl ⟨a, xs, rfl, hq, fun x hx => ⟨(ho x hx).odd, (ho x hx).wd⟩, rfl⟩
  · exact .inr ⟨noRow_T0 h, rfl⟩
/-- what repr reads of it -/
theorem Od.dats {K : PySem.W.Frag} {B : Addr → Prop} {H : Hp} : ∀ {xs : List V}, (∀ x ∈ xs, Od B H x) → ∃ ds, Paired (fun x d => ItD K H x d) xs ds ∧ (∀ d ∈ ds, ShOk d 1 600) ∧ ds.length = xs.length
  | [], _ => ⟨[], .nil, (fun _ z => by cases z), rfl⟩
  | x :: xs, h => by
    obtain ⟨d, h1, h2⟩ := (h x List.mem_cons_self).dat (K := K)
    obtain ⟨ds, g1, g2, g3⟩ := Od.dats (K := K) (xs := xs) fun y hy => h y (List.mem_cons_of_mem _ hy)
    exact ⟨d :: ds, .cons h1 g1, fun z hz => (List.mem_cons.mp hz).elim (fun e => e ▸ h2) (g2 z), by simp [g3]⟩
theorem RwO.dat {K : PySem.W.Frag} {B : Addr → Prop} {H : Hp} {v : V} {r : Vw} (h : RwO B H v r) : ∃ d, RowD K H v d ∧ ShOk d 2 13000 := by
  rcases h with ⟨a, xs, rfl, hb, hq, hl, ho, rfl⟩ | ⟨h, rfl⟩
  · obtain ⟨ds, g1, g2, g3⟩ := Od.dats (K := K) ho
    rcases hq with hq | hq
    · exact ⟨_, .inr ⟨a, true, xs, ds, rfl, hq, g1, rfl⟩, (ShOk.seq true g2).mono (by omega) (by rw [g3]; omega)⟩
    · exact ⟨_, .inr ⟨a, false, xs, ds, rfl, hq, g1, rfl⟩, (ShOk.seq false g2).mono (by omega) (by rw [g3]; omega)⟩
  · have ho : Od B H v := h.elim .inl fun ⟨a, e1, e2, e3⟩ => .inr ⟨a, e1, e2, .inr (.inr e3)⟩
    obtain ⟨d, h1, h2⟩ := ho.dat (K := K)
    exact ⟨d, .inl h1, h2.mono (by omega) (by omega)⟩
section
variable {K : PySem.W.Frag} {σ : L2.St} {H : Hp} {te : TE}
theorem ev_isSeqO {v : V} {r : Vw} (h : Ev te σ H v) (hf : FvAt K H v r) : Ev (tCB (rIsiT K) (tCons te (tCons (tTup (tCons (tC (.ty "list")) (tCons (tC (.ty "tuple")) tNil))) tNil))) σ H (.bl r.isSome) := fun H1 e1 Q q => h H1 e1 _ fun H2 e2 =>
  ⟨by show 2 ≤ sizeLine; decide, fun p np => by
    rcases hf with ⟨a, xs, rfl, hq, _, rfl⟩ | ⟨⟨t, ty, hk⟩, rfl⟩
    · rcases seq_same hq (Ex.trans e1 e2) with hq | hq
      · exact ⟨_, _, _, _, _, true, rfl, upd_same, .cons (.ty _) (.cons (.ty _) .nil), .base (.lst (by rw [upd_ne (ne_of_none hq np)]; exact hq)), kitAny_cons (b := true) (kit_ty (by decide +kernel)) (fun z => nomatch z) (fun _ => rfl), q _ (Ex.trans e2 (Ex.new np))⟩
      · exact ⟨_, _, _, _, _, true, rfl, upd_same, .cons (.ty _) (.cons (.ty _) .nil), .base (.tup (by rw [upd_ne (ne_of_none hq np)]; exact hq)), kitAny_cons (b := false) (kit_ty (by decide +kernel)) (fun _ => kitAny_cons (b := true) (kit_ty (by decide +kernel)) (fun z => nomatch z) (fun _ => rfl)) (fun z => nomatch z), q _ (Ex.trans e2 (Ex.new np))⟩
    · exact ⟨_, _, _, _, _, false, rfl, upd_same, .cons (.ty _) (.cons (.ty _) .nil), ty _ (Ex.trans e1 (Ex.trans e2 (Ex.new np))), hk, q _ (Ex.trans e2 (Ex.new np))⟩⟩
theorem lc_drawT {st c D a : Addr} {xs : List V} {j : Nat} {H1 : Hp} {Qd : Hp → Prop} (Pr : Nat → V → Hp → Prop) (S0 : StAt H1 st c) (nD : H1 D = none) (ha : H1 a = some (.tup xs)) (hn : xs.length ≤ 1000) (stab : ∀ i v H H', Pr i v H → KpS st D H H' → Pr i v H')
    (turn : ∀ i x H', xs[i]? = some x → StAt H' st c → Kp st H1 H' → (∃ acc, H' D = some (.lst acc)) → ∀ Q : VK, (∀ v H2, Pr i v H2 → StAt H2 st c → Kp st H' H2 → Q v H2) → te ((wipe σ [j]).set j (some x)) H' Q)
    (done : ∀ vs H', vs.length = xs.length → (∀ i v, vs[i]? = some v → Pr i v H') → StAt H' st c → Kp st H1 H' → H' D = some (.lst vs) → Qd H') :
    ∃ W : Nat → Nat → Hp → Prop, (∃ m, W 0 m (upd H1 D (.lst []))) ∧ ∀ i m H, W i m H → ((Itt K a).stop i H ∧ Qd H) ∨ ((Itt K a).go i H ∧ ∃ Nx : Hp → Prop, (∀ H', Nx H' → ∃ m', m' < m ∧ W (i + 1) m' H') ∧ ∀ x H', (Itt K a).yld i H x H' → gName j x (wipe σ [j]) H' fun σ2 H2 => wipe σ2 [j] = wipe σ [j] ∧ tYes σ2 H2 fun b H3 =>
      if b = true then te σ2 H3 fun y H4 => ∃ acc, H4 D = some (.lst acc) ∧ acc.length < sizeLine ∧ Nx (upd H4 D (.lst (acc ++ [y]))) else Nx H3) := by
  have hDs := (S0.of_new nD).1
  have hDc := (S0.of_new nD).2
  obtain ⟨xs0, hst0⟩ := S0.neL
  have has : a ≠ st := fun z => by rw [z, hst0] at ha; cases ha
  refine lc_tup (K := K) (a := a) (xs := xs) (fun i H' => StAt H' st c ∧ Kp st H1 H' ∧ ∃ vs : List V, vs.length = i ∧ H' D = some (.lst vs) ∧ ∀ k v, vs[k]? = some v → Pr k v H') ⟨S0.same (Same.upd' nD), Kp.of (Same.upd' nD), [], rfl, upd_same, fun k v h => by simp at h⟩ (fun i H' _ p => SqT.of (p.2.1 _ _ has ha)) ?_ ?_
  · rintro i x H' hx ⟨S', e, vs, hl, hD, hv⟩
    have hi := (List.getElem?_eq_some_iff.mp hx).1
    refine ⟨wipe1 σ j _, ?_⟩
    obtain ⟨xs1, hst1⟩ := S'.neL
    refine turn i x H' hx S' e ⟨_, hD⟩ _ fun v H2 hp S2 e2 => ?_
    have hD2 := e2 _ _ hDs hD
    refine ⟨vs, hD2, small1000 (by omega), S2.mut hDs hDc, Kp.mut (e.trans e2) nD, vs ++ [v], by simp [hl], upd_same, fun k y hy => ?_⟩
    have km : KpS st D H2 (upd H2 D (.lst (vs ++ [v]))) := kps_mut hD2
    rcases Nat.lt_or_ge k vs.length with hk | hk
    · rw [List.getElem?_append_left hk] at hy
      exact stab _ _ _ _ (stab _ _ _ _ (hv k y hy) (kps_of e2 hst1)) km
    · rw [List.getElem?_append_right hk] at hy
      cases q : k - vs.length with
      | zero =>
        rw [q] at hy
        cases hy
        have : k = i := by omega
        rw [this]
        exact stab _ _ _ _ hp km
      | succ m => rw [q] at hy; simp at hy
  · rintro H' ⟨S', e, vs, hl, hD, hv⟩
    exact done vs H' hl hv S' e hD
/-- [e for x in a], where e draws -/
theorem go_drawQ {st c a : Addr} {xs : List V} {i0 j : Nat} {Q : VK} (Pr : Addr → Nat → V → Hp → Prop) (h : σ[i0]? = some (some (.ref a))) (S0 : StAt H st c) (has : a ≠ st) (ha : SeqAt H a xs) (hn : xs.length ≤ 1000) (stab : ∀ D i v H H', Pr D i v H → KpS st D H H' → Pr D i v H')
    (turn : ∀ D i x H', H D = none → D ≠ st → xs[i]? = some x → StAt H' st c → Kp st H H' → (∃ acc, H' D = some (.lst acc)) → ∀ Q : VK, (∀ v H2, Pr D i v H2 → StAt H2 st c → Kp st H' H2 → Q v H2) → te ((wipe σ [j]).set j (some x)) H' Q)
    (done : ∀ D vs H', H D = none → D ≠ st → vs.length = xs.length → (∀ i v, vs[i]? = some v → Pr D i v H') → StAt H' st c → Kp st H H' → H' D = some (.lst vs) → Q (.ref D) H') :
    tLc (fun σ H R => iList K (tVar i0) σ H R ∨ iTup K (tVar i0) σ H R) (gName j) tYes te [j] σ H Q := by
  rcases ha with ha | ha
  · exact .inl ⟨_, h, a, rfl, ⟨_, SqL.of ha⟩, fun D nD => lc_drawL (K := K) (σ := σ) (Pr D) S0 nD has ha hn (stab D) (fun i x H' hx S' e' hacc Q' q' => turn D i x H' nD (S0.of_new nD).1 hx S' e' hacc Q' q') fun vs H' hl hv S' e' hD => done D vs H' nD (S0.of_new nD).1 hl hv S' e' hD⟩
  · exact .inr ⟨_, h, a, rfl, ⟨_, SqT.of ha⟩, fun D nD => lc_drawT (K := K) (σ := σ) (Pr D) S0 nD ha hn (stab D) (fun i x H' hx S' e' hacc Q' q' => turn D i x H' nD (S0.of_new nD).1 hx S' e' hacc Q' q') fun vs H' hl hv S' e' hD => done D vs H' nD (S0.of_new nD).1 hl hv S' e' hD⟩
end
theorem pss_no1 {X : Cx} {ss : List Stmt} : PSs X ss (fun _ _ _ => False) := ⟨fun _ _ _ _ _ _ h => h.elim⟩
/-- no list of H -/
def NL (H : Hp) (a : Addr) : Prop := ∀ ys, H a ≠ some (.lst ys)
theorem NL.back {st : Addr} {H H' : Hp} {a : Addr} (e : Kp st H H') (hs : ∃ xs, H' st = some (.lst xs)) (h : NL H' a) : NL H a := fun ys hy => by
  by_cases z : a = st
  · obtain ⟨xs, hs⟩ := hs
    exact h xs (by rw [z]; exact hs)
  · exact h ys (e _ _ z hy)
theorem NL.ne {H : Hp} {a b : Addr} {xs : List V} (h : NL H a) (hb : H b = some (.lst xs)) : a ≠ b := fun z => h xs (by rw [z]; exact hb)
section
variable {P : Program} {w : World} {K : PySem.W.Frag} {mg : Str → Option Value} {base : Heap} {f : Addr} {fd : FuncData}
/-- a thing that is no row is handed as it is -/
def spDeep0 : Sp := fun vs H Q _ => ∃ (st : Addr) (v : V) (B : Addr → Prop), vs = [.ref st, v] ∧ T0 B H v ∧ ∀ H', Ex H H' → Q v H'
abbrev s_deep : Stmt := top 30
theorem sc_deep : FnScope ["_law_state", "_law_x", "_law_part"] ["_law_state", "_law_x"] (defScope s_deep) := ⟨rfl, rfl, rfl, by decide +kernel, rfl, by decide +kernel, by decide +kernel⟩
theorem ok_deep0 (F : L2.Fun K "_law_deep" "_law_deep" s_deep f fd) (T : Blt mg) : FnOk P w K mg base CX0 1 f fd ["_law_state", "_law_x"] spDeep0 := by
  refine F.ok sc_deep (fun vs H Q E h => ?_) (fun cdv A outer s H vs Q E hr h => ?_)
  · obtain ⟨st, z, B, rfl, _⟩ := h
    rfl
  · obtain ⟨st, z, B, rfl, hz, k⟩ := h
    refine ⟨_, (pss_cons (ps_if (pt_not (pt_val (pe_callB call_isiT (by rfl) T.b_isinstance (by decide +kernel) (pa_cons (pv 1) (pa_cons (pe_tup (pa_cons (pe_bltn (v := .ty "list") (u := .type "list") (by rfl) T.b_list (by decide +kernel) rfl) (pa_cons (pe_bltn (v := .ty "tuple") (u := .type "tuple") (by rfl) T.b_tuple (by decide +kernel) rfl) pa_nil))) pa_nil))))) (pss_one (ps_ret (pv 1))) pss_nil) pss_no1), ?_⟩
    have isr : Ev (tCB (rIsiT K) (tCons (tVar 1) (tCons (tTup (tCons (tC (.ty "list")) (tCons (tC (.ty "tuple")) tNil))) tNil))) [some (.ref st), some z, none] H (.bl false) := ev_isSeqO (r := none) (ev_var rfl) (.inr ⟨noRow_T0 hz, rfl⟩)
    exact q_when (b := true) (et_is (et_not (et_B isr)) rfl) (fun _ H1 e1 => s_ret (ev_var rfl) fun H2 e2 => k H2 (Ex.trans e1 e2)) (fun z => nomatch z)
/-- an odd thing -/
def spDeepO : Sp := fun vs H Q _ => ∃ (st c : Addr) (x : V), vs = [.ref st, x] ∧ StAt H st c ∧ Od (fun a => a ≠ st) H x ∧ ∀ v H', StAt H' st c → Kp st H H' → Od (NL H) H' v → tx v = tx x → Q v H'
theorem T0.nl {H : Hp} {st : Addr} {x : V} (h : T0 (fun a => a ≠ st) H x) : T0 (NL H) H x := h.imp id fun ⟨a, e1, e2, e3⟩ => ⟨a, e1, (fun ys (hy : H a = some (.lst ys)) => by rw [e3] at hy; cases hy), e3⟩
theorem T0.od {B : Addr → Prop} {H : Hp} {x : V} (h : T0 B H x) : Od B H x := h.elim .inl fun ⟨a, e1, e2, e3⟩ => .inr ⟨a, e1, e2, .inr (.inr e3)⟩
theorem Od.cut {B : Addr → Prop} {H : Hp} {x : V} (h : Od B H x) : T0 B H x ∨ ∃ a xs, x = .ref a ∧ B a ∧ SeqAt H a xs ∧ OdL xs := by
  rcases h with h | ⟨a, rfl, hb, h⟩
  · exact .inl (.inl h)
  · rcases h with ⟨xs, h, hl⟩ | ⟨xs, h, hl⟩ | h
    · exact .inr ⟨a, xs, rfl, hb, .inr h, hl⟩
    · exact .inr ⟨a, xs, rfl, hb, .inl h, hl⟩
    · exact .inl (.inr ⟨a, rfl, hb, h⟩)
theorem ok_deepO {fD fH : Addr} {fdD fdH : FuncData} (F : L2.Fun K "_law_deep" "_law_deep" s_deep f fd) (T : Blt mg) (D_deep : DefOk P w K mg base 1 "_law_deep" fD fdD ["_law_state", "_law_x"] spDeep0) (D_handed : DefOk P w K mg base 3 "_law_handed" fH fdH ["_law_state", "_law_things"] spHanded) :
    FnOk P w K mg base CX0 4 f fd ["_law_state", "_law_x"] spDeepO := by
  refine F.ok sc_deep (fun vs H Q E h => ?_) (fun cdv A outer s H vs Q E hr h => ?_)
  · obtain ⟨st, c, x, rfl, _⟩ := h
    rfl
  · obtain ⟨st, c, x, rfl, S, hx, k⟩ := h
    refine ⟨_, (pss_cons (ps_if (pt_not (pt_val (pe_callB call_isiT (by rfl) T.b_isinstance (by decide +kernel) (pa_cons (pv 1) (pa_cons (pe_tup (pa_cons (pe_bltn (v := .ty "list") (u := .type "list") (by rfl) T.b_list (by decide +kernel) rfl) (pa_cons (pe_bltn (v := .ty "tuple") (u := .type "tuple") (by rfl) T.b_tuple (by decide +kernel) rfl) pa_nil))) pa_nil))))) (pss_one (ps_ret (pv 1))) pss_nil)
        (pss_one (ps_ret (pe_d D_handed (hr.mono (by decide)) (by exact (pa_cons (pv 0) (pa_cons (pe_lc (own := [("_law_part", 2)]) (g := gName 2) (tt := tYes)/- '_law_deep' -/ rfl sc_deep.nd (pi_or (pi_list (pv 1)) (pi_tup (pv 1))) (blkOk_by (own := [("_law_part", 2)]) (by kernel_rfl)) (fun _ _ _ _ _ => (pg_name (i := 2) sc_deep.nd rfl (by first | exact Or.inl rfl | exact Or.inr rfl))) (fun _ _ _ _ _ => pts_nil) (fun _ _ _ _ _ => by exact (pe_d D_deep (hr.mono (by decide)) (pa_cons (pv 0) (pa_cons (pv 2) pa_nil))))) pa_nil))))))), ?_⟩
    have isr := ev_isSeqO (K := K) (te := tVar 1) (σ := [some (.ref st), some x, none]) (ev_var rfl) (hx.rw.choose_spec.fv (K := K))
    rcases hx.cut with h0 | ⟨a, xs, rfl, hb, ha, hl⟩
    · have isr : Ev (tCB (rIsiT K) (tCons (tVar 1) (tCons (tTup (tCons (tC (.ty "list")) (tCons (tC (.ty "tuple")) tNil))) tNil))) [some (.ref st), some x, none] H (.bl false) := ev_isSeqO (r := none) (ev_var rfl) (.inr ⟨noRow_T0 h0, rfl⟩)
      exact q_when (b := true) (et_is (et_not (et_B isr)) rfl) (fun _ H1 e1 => s_ret (ev_var rfl) fun H2 e2 => k x H2 (S.same (Ex.trans e1 e2)) (Kp.of (Ex.trans e1 e2)) (h0.nl.od.ex (Ex.trans e1 e2)) rfl) (fun z => nomatch z)
    · have isr : Ev (tCB (rIsiT K) (tCons (tVar 1) (tCons (tTup (tCons (tC (.ty "list")) (tCons (tC (.ty "tuple")) tNil))) tNil))) [some (.ref st), some (.ref a), none] H (.bl true) := ev_isSeqO (r := some (xs.map tx)) (ev_var rfl) (.inl ⟨a, xs, rfl, ha, fun y hy => ⟨Od.odd (B := fun _ => True) (.inl (hl.2 y hy)), Od.wd (B := fun _ => True) (.inl (hl.2 y hy))⟩, rfl⟩)
      refine q_when (b := false) (et_is (et_not (et_B isr)) rfl) (fun z => nomatch z) fun _ H1 e1 => ?_
      have hl9 := hl.1
      have mp := el_mapS (K := K) (σ := [some (.ref st), some (.ref a), none]) (H := H1) (te := tCall spDeep0 [] E0 (tCons (tVar 0) (tCons (tVar 2) tNil))) (tl := tVar 1) (l := xs) (f := id) (g := id) (j := 2) (ev_var rfl) (by rw [List.map_id]; exact seq_same ha e1) (by omega) fun x hx H2 e2 H3 e3 Q q => ⟨_, rfl, _, rfl, st, x, fun _ => True, rfl, .inl (hl.2 x hx), fun H' e => q H' e⟩
      rw [List.map_id] at mp
      refine ⟨_, rfl, mp H1 (Ex.refl _) _ fun p H2 np e2 hp => ?_⟩
      have e02 := Same.trans e1 e2
      have S2 := S.same e02
      obtain ⟨ys, hys⟩ := S.neL
      have hps : p ≠ st := fun z => by rw [z, e1 _ _ hys] at np; cases np
      refine ⟨st, c, p, xs, rfl, S2, hps, hp, fun t H' nt S' k' hq => k _ H' S' ((Kp.of e02).trans k') ?_ rfl⟩
      have nt0 : H t = none := kp_back S2 (Kp.of e02) (fresh_back (Ex.refl _) nt)
      have hnl : NL H t := fun ys hy => by rw [nt0] at hy; cases hy
      exact .inr ⟨t, rfl, hnl, hq.elim (fun h => .inr (.inl ⟨xs, h, hl⟩)) fun h => .inl ⟨xs, h, hl⟩⟩
/-- a row of odd things, or a thing that is none -/
def spDeepR : Sp := fun vs H Q _ => ∃ (st c : Addr) (x : V) (r : Vw), vs = [.ref st, x] ∧ StAt H st c ∧ RwO (fun a => a ≠ st) H x r ∧ ∀ v H', StAt H' st c → Kp st H H' → RwO (NL H) H' v r → Q v H'
theorem ok_deepR {fD fH : Addr} {fdD fdH : FuncData} (F : L2.Fun K "_law_deep" "_law_deep" s_deep f fd) (T : Blt mg) (D_deep : DefOk P w K mg base 4 "_law_deep" fD fdD ["_law_state", "_law_x"] spDeepO) (D_handed : DefOk P w K mg base 3 "_law_handed" fH fdH ["_law_state", "_law_things"] spHanded) :
    FnOk P w K mg base CX0 5 f fd ["_law_state", "_law_x"] spDeepR := by
  refine F.ok sc_deep (fun vs H Q E h => ?_) (fun cdv A outer s H vs Q E hr h => ?_)
  · obtain ⟨st, c, x, r, rfl, _⟩ := h
    rfl
  · obtain ⟨st, c, x, r, rfl, S, hx, k⟩ := h
    refine ⟨_, (pss_cons (ps_if (pt_not (pt_val (pe_callB call_isiT (by rfl) T.b_isinstance (by decide +kernel) (pa_cons (pv 1) (pa_cons (pe_tup (pa_cons (pe_bltn (v := .ty "list") (u := .type "list") (by rfl) T.b_list (by decide +kernel) rfl) (pa_cons (pe_bltn (v := .ty "tuple") (u := .type "tuple") (by rfl) T.b_tuple (by decide +kernel) rfl) pa_nil))) pa_nil))))) (pss_one (ps_ret (pv 1))) pss_nil)
        (pss_one (ps_ret (pe_d D_handed (hr.mono (by decide)) (by exact (pa_cons (pv 0) (pa_cons (pe_lc (own := [("_law_part", 2)]) (g := gName 2) (tt := tYes)/- '_law_deep' -/ rfl sc_deep.nd (pi_or (pi_list (pv 1)) (pi_tup (pv 1))) (blkOk_by (own := [("_law_part", 2)]) (by kernel_rfl)) (fun _ _ _ _ _ => (pg_name (i := 2) sc_deep.nd rfl (by first | exact Or.inl rfl | exact Or.inr rfl))) (fun _ _ _ _ _ => pts_nil) (fun _ _ _ _ _ => by exact (pe_d D_deep (hr.mono (by decide)) (pa_cons (pv 0) (pa_cons (pv 2) pa_nil))))) pa_nil))))))), ?_⟩
    have isr : Ev (tCB (rIsiT K) (tCons (tVar 1) (tCons (tTup (tCons (tC (.ty "list")) (tCons (tC (.ty "tuple")) tNil))) tNil))) [some (.ref st), some x, none] H (.bl r.isSome) := ev_isSeqO (ev_var rfl) hx.fv
    rcases id hx with ⟨a, xs, rfl, hb, ha, hl, ho, rfl⟩ | ⟨h0, rfl⟩
    rotate_left
    · exact q_when (b := true) (et_is (et_not (et_B isr)) rfl) (fun _ H1 e1 => s_ret (ev_var rfl) fun H2 e2 => k x H2 (S.same (Ex.trans e1 e2)) (Kp.of (Ex.trans e1 e2)) (.inr ⟨h0.nl.mono fun a o b q _ => ⟨b, Ex.trans e1 e2 _ _ q⟩, rfl⟩)) (fun z => nomatch z)
    refine q_when (b := false) (et_is (et_not (et_B isr)) rfl) (fun z => nomatch z) fun _ H1 e1 => ?_
    have S1 := S.same e1
    refine ⟨_, rfl, go_drawQ (K := K) (σ := [some (.ref st), some (.ref a), none]) (i0 := 1) (j := 2) (fun D i v H' => Od (fun b => NL H b ∧ b ≠ D ∧ b ≠ st) H' v ∧ ∀ y, xs[i]? = some y → tx v = tx y) rfl S1 hb (seq_same ha e1) (by omega) (fun D i v Ha Hb h e => ⟨h.1.mono fun b o hb q _ => ⟨hb, e.lst hb.2.2 hb.2.1 q⟩, h.2⟩) (fun D i x H' nD hDs hxi S' e' hacc Q' q' => ?_) fun D vs H' nD hDs hlv hv S' e' hD => ?_⟩
    · obtain ⟨acc, hacc⟩ := hacc
      have hox := (((ho x (List.mem_of_getElem? hxi)).ex e1).kp e')
      refine ⟨_, rfl, _, rfl, st, c, x, rfl, S', hox, fun v H2 S2 k2 hv ht => q' v H2 ⟨hv.mono fun b o hb q _ => ⟨⟨hb.back ((Kp.of e1).trans e') S'.neL, hb.ne hacc, ?_⟩, q⟩, fun y hy => by rw [hxi] at hy; cases hy; exact ht⟩ S2 k2⟩
      obtain ⟨ws, hws⟩ := S'.neL
      exact hb.ne hws
    · have k1 : Kp st H H' := (Kp.of e1).trans e'
      refine ⟨st, c, D, vs, rfl, S', hDs, hD, fun t H2 nt S2 k2 hq => k _ H2 S2 (k1.trans k2) (.inl ⟨t, vs, rfl, ?_, hq, by omega, fun x hx => ?_, ?_⟩)⟩
      · have nt0 := kp_back S' k1 nt
        exact fun ys hy => by rw [nt0] at hy; cases hy
      · obtain ⟨i, hi⟩ := List.mem_iff_getElem?.mp hx
        exact (hv i x hi).1.mono fun b o hb q _ => ⟨hb.1, k2 _ _ hb.2.2 q⟩
      · refine congrArg some (List.ext_getElem? fun i => ?_)
        rw [List.getElem?_map, List.getElem?_map]
        cases h1 : vs[i]? with
        | none =>
          have : xs[i]? = none := by rw [List.getElem?_eq_none_iff] at h1 ⊢; omega
          rw [this]
        | some v =>
          have hi := (List.getElem?_eq_some_iff.mp h1).1
          have h2 : xs[i]? = some (xs[i]'(by omega)) := List.getElem?_eq_getElem _
          rw [h2]
          show some (tx _) = some (tx v)
          rw [(hv i v h1).2 _ h2]
/-- rows one behind another -/
def RwsO (B : Addr → Prop) (H : Hp) (xs : List V) (rs : List Vw) : Prop := xs.length = rs.length ∧ ∀ (i : Nat) x r, xs[i]? = some x → rs[i]? = some r → RwO B H x r
theorem RwsO.mono {B B' : Addr → Prop} {H H' : Hp} {xs : List V} {rs : List Vw} (e : ∀ a o, B a → H a = some o → (∀ ps, o ≠ .tbl ps) → B' a ∧ H' a = some o) (h : RwsO B H xs rs) : RwsO B' H' xs rs := ⟨h.1, fun i x r h1 h2 => (h.2 i x r h1 h2).mono e⟩
theorem RwsO.ex {B : Addr → Prop} {H H' : Hp} {xs : List V} {rs : List Vw} (e : Ex H H') (h : RwsO B H xs rs) : RwsO B H' xs rs := h.mono fun a o b q _ => ⟨b, e _ _ q⟩
theorem RwsO.rv {K : PySem.W.Frag} {B : Addr → Prop} {H : Hp} {xs : List V} {rs : List Vw} (h : RwsO B H xs rs) : RvAt K H xs rs := ⟨h.1, fun i r hr => by
  have hi := (List.getElem?_eq_some_iff.mp hr).1
  have hx : xs[i]? = some (xs[i]'(by rw [h.1]; exact hi)) := List.getElem?_eq_getElem _
  exact ⟨_, hx, (h.2 i _ r hx hr).fv⟩⟩
def spDeepL : Sp := fun vs H Q _ => ∃ (st c a : Addr) (xs : List V) (rs : List Vw), vs = [.ref st, .ref a] ∧ StAt H st c ∧ a ≠ st ∧ H a = some (.lst xs) ∧ RwsO (fun a => a ≠ st) H xs rs ∧ xs.length ≤ 9 ∧ ∀ p ys H', H p = none → StAt H' st c → Kp st H H' → SeqAt H' p ys → RwsO (NL H) H' ys rs → Q (.ref p) H'
theorem ok_deepL {fD fH : Addr} {fdD fdH : FuncData} (F : L2.Fun K "_law_deep" "_law_deep" s_deep f fd) (T : Blt mg) (D_deep : DefOk P w K mg base 5 "_law_deep" fD fdD ["_law_state", "_law_x"] spDeepR) (D_handed : DefOk P w K mg base 3 "_law_handed" fH fdH ["_law_state", "_law_things"] spHanded) :
    FnOk P w K mg base CX0 6 f fd ["_law_state", "_law_x"] spDeepL := by
  refine F.ok sc_deep (fun vs H Q E h => ?_) (fun cdv A outer s H vs Q E hr h => ?_)
  · obtain ⟨st, c, a, xs, rs, rfl, _⟩ := h
    rfl
  · obtain ⟨st, c, a, xs, rs, rfl, S, hb, ha, hR, hl, k⟩ := h
    refine ⟨_, (pss_cons (ps_if (pt_not (pt_val (pe_callB call_isiT (by rfl) T.b_isinstance (by decide +kernel) (pa_cons (pv 1) (pa_cons (pe_tup (pa_cons (pe_bltn (v := .ty "list") (u := .type "list") (by rfl) T.b_list (by decide +kernel) rfl) (pa_cons (pe_bltn (v := .ty "tuple") (u := .type "tuple") (by rfl) T.b_tuple (by decide +kernel) rfl) pa_nil))) pa_nil))))) (pss_one (ps_ret (pv 1))) pss_nil)
        (pss_one (ps_ret (pe_d D_handed (hr.mono (by decide)) (by exact (pa_cons (pv 0) (pa_cons (pe_lc (own := [("_law_part", 2)]) (g := gName 2) (tt := tYes)/- '_law_deep' -/ rfl sc_deep.nd (pi_or (pi_list (pv 1)) (pi_tup (pv 1))) (blkOk_by (own := [("_law_part", 2)]) (by kernel_rfl)) (fun _ _ _ _ _ => (pg_name (i := 2) sc_deep.nd rfl (by first | exact Or.inl rfl | exact Or.inr rfl))) (fun _ _ _ _ _ => pts_nil) (fun _ _ _ _ _ => by exact (pe_d D_deep (hr.mono (by decide)) (pa_cons (pv 0) (pa_cons (pv 2) pa_nil))))) pa_nil))))))), ?_⟩
    have isr : Ev (tCB (rIsiT K) (tCons (tVar 1) (tCons (tTup (tCons (tC (.ty "list")) (tCons (tC (.ty "tuple")) tNil))) tNil))) [some (.ref st), some (.ref a), none] H (.bl true) := fun H1 e1 Q q => ⟨_, rfl, by show 2 ≤ sizeLine; decide, fun p np => ⟨_, _, _, _, _, true, rfl, upd_same, .cons (.ty _) (.cons (.ty _) .nil), .base (.lst (by rw [upd_ne (ne_of_none (e1 _ _ ha) np)]; exact e1 _ _ ha)), kitAny_cons (b := true) (kit_ty (by decide +kernel)) (fun z => nomatch z) (fun _ => rfl), q _ (Ex.new np)⟩⟩
    refine q_when (b := false) (et_is (et_not (et_B isr)) rfl) (fun z => nomatch z) fun _ H1 e1 => ?_
    have S1 := S.same e1
    refine ⟨_, rfl, go_drawQ (K := K) (σ := [some (.ref st), some (.ref a), none]) (i0 := 1) (j := 2) (fun D i v H' => ∀ r, rs[i]? = some r → RwO (fun b => NL H b ∧ b ≠ D ∧ b ≠ st) H' v r) rfl S1 hb (.inl (e1 _ _ ha)) (by omega) (fun D i v Ha Hb h e r hr => (h r hr).mono fun b o hb q _ => ⟨hb, e.lst hb.2.2 hb.2.1 q⟩) (fun D i x H' nD hDs hxi S' e' hacc Q' q' => ?_) fun D vs H' nD hDs hlv hv S' e' hD => ?_⟩
    · obtain ⟨acc, hacc⟩ := hacc
      have hi := (List.getElem?_eq_some_iff.mp hxi).1
      have hr : rs[i]? = some (rs[i]'(by rw [← hR.1]; exact hi)) := List.getElem?_eq_getElem _
      have hox := ((hR.2 i x _ hxi hr).ex e1).kp e'
      refine ⟨_, rfl, _, rfl, st, c, x, _, rfl, S', hox, fun v H2 S2 k2 hv => q' v H2 (fun r hr' => ?_) S2 k2⟩
      rw [hr] at hr'
      cases hr'
      obtain ⟨ws, hws⟩ := S'.neL
      exact hv.mono fun b o hb q _ => ⟨⟨hb.back ((Kp.of e1).trans e') S'.neL, hb.ne hacc, hb.ne hws⟩, q⟩
    · have k1 : Kp st H H' := (Kp.of e1).trans e'
      exact ⟨st, c, D, vs, rfl, S', hDs, hD, fun t H2 nt S2 k2 hq => k t vs H2 (kp_back S' k1 nt) S2 (k1.trans k2) hq ⟨by rw [hlv, hR.1], fun i x r hx hr => (hv i x hx r hr).mono fun b o hb q _ => ⟨hb.1, k2 _ _ hb.2.2 q⟩⟩⟩
end
end Lm

namespace Lm
open PySem L2 Evl RZ
section
variable {K : PySem.W.Frag} {σ : L2.St} {H : Hp} {te tl : TE}
theorem go_tupsL {a : Addr} {xs : List V} {l : List (Addr × Str × List Str)} {i0 j : Nat} {Q : VK} (h : σ[i0]? = some (some (.ref a))) (ha : H a = some (.lst xs)) (hR : RowsZ H xs l) (hl : l.length ≤ 900) (hj : ∀ v, ((wipe σ [j]).set j (some v))[j]? = some (some v))
    (k : ∀ D (ts : List Addr) (H' : Hp), H D = none → Ex H H' → H' D = some (.lst (ts.map V.ref)) → ts.length = l.length → (∀ (j : Nat) z t, l[j]? = some z → ts[j]? = some t → H' t = some (.tup ((z.2.1 :: z.2.2).map V.str))) → Q (.ref D) H') :
    tLc (iList K (tVar i0)) (gName j) tYes (tCB (rTupOf K) (tCons (tVar j) tNil)) [j] σ H Q := by
  have lx : xs.length = l.length := by rw [hR.1, List.length_map]
  have turn : ∀ (D : Addr), H D = none → ∀ (i : Nat) (x : V) (H' : Hp), xs[i]? = some x → TpW H l D i H' → wipe ((wipe σ [j]).set j (some x)) [j] = wipe σ [j] ∧ tYes ((wipe σ [j]).set j (some x)) H' fun b H3 => if b = true then tCB (rTupOf K) (tCons (tVar j) tNil) ((wipe σ [j]).set j (some x)) H3 fun y H4 => ∃ acc, H4 D = some (.lst acc) ∧ acc.length < sizeLine ∧ TpW H l D (i + 1) (upd H4 D (.lst (acc ++ [y]))) else TpW H l D (i + 1) H3 := by
    rintro D hD i x H' hx ⟨e, ts, h1, h2, h3⟩
    rw [hR.1] at hx
    obtain ⟨z, hz, rfl⟩ := map_inv1 hx
    have hi := (List.getElem?_eq_some_iff.mp hz).1
    have hs := seq_same (hR.2 z (List.mem_of_getElem? hz)) e
    refine ⟨wipe1 _ j _, ?_⟩
    unfold tYes
    dsimp only
    rw [if_pos rfl]
    have step : ∀ (t : Addr) (H4 : Hp), Ex H' H4 → t ≠ D → H4 t = some (.tup ((z.2.1 :: z.2.2).map V.str)) → ∃ acc, H4 D = some (.lst acc) ∧ acc.length < sizeLine ∧ TpW H l D (i + 1) (upd H4 D (.lst (acc ++ [.ref t]))) := fun t H4 e4 htD ht => by
      refine ⟨_, e4 _ _ h1, small1000 (by rw [List.length_map]; omega), Ex.mut (Ex.trans e e4) hD, ts ++ [t], ?_, by simp [h2], fun m y u q1 q2 => ?_⟩
      · rw [upd_same, List.map_append]
        rfl
      · rcases Nat.lt_or_ge m ts.length with q | q
        · rw [List.getElem?_append_left q] at q2
          have h4 := h3 m y u q1 q2
          rw [upd_ne (ne_of h4 h1 (by intro z; cases z))]
          exact e4 _ _ h4
        · rw [List.getElem?_append_right q] at q2
          have hm : m = i := by
            have := (List.getElem?_eq_some_iff.mp q2).1
            simp at this
            omega
          subst hm
          rw [h2, Nat.sub_self] at q2
          cases q2
          rw [hz] at q1
          cases q1
          rw [upd_ne htD]
          exact ht
    rcases hs with hs | hs
    · exact ⟨_, hj _, z.1, _, rfl, .inl ⟨SqL.of hs, fun n nn => step n _ (Ex.new nn) (ne_of_none h1 nn).symm upd_same⟩⟩
    · exact ⟨_, hj _, z.1, _, rfl, .inr ⟨SqT.of hs, step z.1 _ (Ex.refl _) (ne_of hs h1 (by intro z; cases z)) hs⟩⟩
  have fin : ∀ (D : Addr), H D = none → ∀ H', TpW H l D xs.length H' → Q (.ref D) H' := fun D hD H' ⟨e, ts, h1, h2, h3⟩ => k D ts H' hD e h1 (by rw [h2, lx]) h3
  exact ⟨_, h, a, rfl, ⟨_, SqL.of ha⟩, fun D hD => lc_list (K := K) (xs := xs) (TpW H l D) ⟨Ex.new hD, [], upd_same, rfl, fun j z t q1 q2 => by simp at q2⟩ (fun i H' _ p => SqL.of (p.1 _ _ ha)) (fun i x H' hx p => turn D hD i x H' hx p) (fun H' p => fin D hD H' p)⟩
end
section
variable {P : Program} {w : World} {K : PySem.W.Frag} {mg : Str → Option Value} {base : Heap} {f : Addr} {fd : FuncData}
abbrev s_is_wordL : Stmt := top 32
theorem sc_is_wordL : FnScope ["_law_x", "_law_sign"] ["_law_x"] (defScope s_is_wordL) := ⟨rfl, rfl, rfl, by decide +kernel, rfl, by decide +kernel, by decide +kernel⟩
theorem ok_is_wordL (F : L2.Fun K "_law_is_word" "_law_is_word" s_is_wordL f fd) (T : Blt mg) : FnOk P w K mg base CX0 1 f fd ["_law_x"] (spIsWordA K) := by
  refine F.ok sc_is_wordL (fun vs H Q E h => ?_) (fun cdv A outer s H vs Q E hr h => ?_)
  · obtain ⟨x, b, rfl, _⟩ := h
    rfl
  · obtain ⟨x, b, rfl, hx, k⟩ := h
    refine ⟨_, (pss_cons (ps_if (PW.pt (pw_or (pt_not (pt_val (pe_callB call_isi (by rfl) T.b_isinstance (by decide +kernel) (pa_cons (pv 0) (pa_cons (pe_bltn (v := .ty "str") (u := .type "str") (by rfl) T.b_str (by decide +kernel) rfl) pa_nil))))) (pw_or (pt_cmpR op_lt (pe_callB call_len_str (by rfl) T.b_len PySem.boot_len (pa_cons (pv 0) pa_nil)) pe_int (nomark _)) (pw_or1 (pt_cmpR op_gt (pe_callB call_len_str (by rfl) T.b_len PySem.boot_len (pa_cons (pv 0) pa_nil)) pe_int (nomark _)))))) (pss_one (ps_ret pe_bl)) pss_nil)
        (pss_one (ps_ret (pe_callB (cr_all rfl) (by rfl) T.b_all (by decide +kernel) (by exact (pa_cons (pe_lc (own := [("_law_sign", 1)]) (g := gName 1) (tt := tYes)/- R cmp -/ rfl sc_is_wordL.nd (pi_str (pv 0)) (blkOk_by (own := [("_law_sign", 1)]) (by kernel_rfl)) (fun _ _ _ _ _ => (pg_name (i := 1) sc_is_wordL.nd rfl (by first | exact Or.inl rfl | exact Or.inr rfl))) (fun _ _ _ _ _ => pts_nil) (fun _ _ _ _ _ => by exact (pe_cmpR op_in_sign (pv 1) pe_str rfl))) pa_nil)))))), ?_⟩
    rcases hx with ⟨x, rfl, hx, rfl⟩ | ⟨⟨t, ty, hk⟩, rfl⟩
    · have hx' : x.length ≤ sizeLine := Nat.le_of_lt (small1000 hx)
      have hl : x.length = x.cps.size := rfl
      refine ⟨_, rfl, _, _, _, _, true, rfl, .ty _, .base (.str x), kit_ty (by decide +kernel), true, rfl, ?_⟩
      refine ⟨_, rfl, _, rfl, hx', _, _, rfl, rfl, _, rfl, ite2 (fun h0 => ?_) (fun h0 => ?_)⟩
      · have h0 : ¬ 1 ≤ x.cps.size := by have := of_decide_eq_true h0; omega
        have e2 : isW x = false := by unfold isW; simp [h0]
        have q := k H (Same.refl H)
        rw [e2] at q
        exact q
      · have h0 : 1 ≤ x.cps.size := by
          have : ¬ ((x.length : Int) < 1) := fun z => h0 (decide_eq_true z)
          omega
        refine ⟨_, rfl, _, rfl, hx', _, _, rfl, rfl, _, rfl, ite2 (fun h1 => ?_) (fun h1 => ?_)⟩
        · have h1 : ¬ x.cps.size ≤ 8 := by have := of_decide_eq_true h1; omega
          have e2 : isW x = false := by unfold isW; simp [h1]
          have q := k H (Same.refl H)
          rw [e2] at q
          exact q
        · have h1 : x.cps.size ≤ 8 := by
            have : ¬ ((8 : Int) < (x.length : Int)) := fun z => h1 (decide_eq_true z)
            omega
          refine ⟨_, rfl, x, rfl, fun D nD => lc_it walk_str (fun j H' => Same H H' ∧ H' D = some (.lst (((x.cps.toList.take j).map fun c => decide (97 ≤ c) && decide (c ≤ 122)).map V.bl))) ⟨Same.upd' nD, upd_same⟩ (fun _ _ _ _ => True.intro) ?_ ?_⟩
          · rintro j y H' H'' hj ⟨e, hD⟩ ⟨rfl, c, hc, rfl⟩
            refine ⟨rfl, _, rfl, _, _, rfl, rfl, _, hD, small1000 (by simp; omega), Same.mut e nD, ?_⟩
            have hc' : x.cps.toList[j]? = some c := by simpa using hc
            rw [upd_same, List.take_succ, hc', isW_sign]
            simp
          · rintro H' ⟨e, hD⟩
            refine ⟨_, _, rfl, SqL.of hD, ?_⟩
            have e2 : (((x.cps.toList.take x.cps.size).map fun c => decide (97 ≤ c) && decide (c ≤ 122)).all id) = isW x := by
              unfold isW
              rw [show x.cps.size = x.cps.toList.length from by simp, List.take_length]
              simp [h0, h1]
            have q := k H' e
            rw [← e2] at q
            exact q
    · exact q_when (b := true) (et_or (b := true) (et_not (et_B (ev_isi (b := false) (ev_var rfl) (.ty _) ty hk))) (fun z => nomatch z)) (fun _ H1 e1 => s_ret ev_c fun H2 e2 => k H2 (Ex.trans e1 e2)) (fun z => nomatch z)
end
/-! ### what is due -/
theorem cutV_to22 (xs : List V) (k : Nat) : cutV xs none (some (k : Int)) = xs.take k := by
  unfold cutV
  rw [HT.sIx_nat, HT.sIx_none, List.drop_zero, Nat.sub_zero]
  rcases Nat.le_total k xs.length with h | h
  · rw [Nat.min_eq_left h]
  · rw [Nat.min_eq_right h, List.take_of_length_le (Nat.le_refl _), List.take_of_length_le h]
theorem nof_take (rs : List Vw) {i k : Nat} (h : i ≤ k) : namesOf (rs.take k) i = namesOf rs i := by
  unfold namesOf
  rw [List.take_take, Nat.min_eq_left h]
theorem whyP_take (rs : List Vw) {i k : Nat} (h : i < k) : whyP (rs.take k) i = whyP rs i := by
  unfold whyP
  rw [nof_take rs (Nat.le_of_lt h), List.getD_eq_getElem?_getD, List.getElem?_take_of_lt h, List.getD_eq_getElem?_getD]
theorem RvAt.take {K : PySem.W.Frag} {H : Hp} {xs : List V} {rs : List Vw} (h : RvAt K H xs rs) (k : Nat) : RvAt K H (xs.take k) (rs.take k) := ⟨by rw [List.length_take, List.length_take, h.len], fun i r hr => by
  have hi : i < k := by have := (List.getElem?_eq_some_iff.mp hr).1; rw [List.length_take] at this; omega
  rw [List.getElem?_take_of_lt hi] at hr
  obtain ⟨v, h1, h2⟩ := h.at_ i r hr
  exact ⟨v, by rw [List.getElem?_take_of_lt hi]; exact h1, h2⟩⟩
/-- the rows ahead, all good -/
theorem heads {K : PySem.W.Frag} {H : Hp} {xs : List V} {rs : List Vw} (h : RvAt K H xs rs) {k : Nat} (hk : k ≤ rs.length) (hw : ∀ i, i < k → whyP rs i = .non) : ∃ l : List (Addr × Str × List Str), xs.take k = l.map (fun z => V.ref z.1) ∧ (∀ z ∈ l, SeqAt H z.1 ((z.2.1 :: z.2.2).map V.str)) ∧ namesOf rs k = l.map fun z => z.2.1 := by
  rcases Nat.eq_zero_or_pos k with rfl | k0
  · exact ⟨[], rfl, (fun z hz => by cases hz), rfl⟩
  · have lk : (rs.take k).length = k := by rw [List.length_take]; omega
    obtain ⟨l, h1, h2, h3⟩ := rows_good (h.take k) (by omega) fun i hi => by
      rw [lk] at hi
      rw [whyP_take rs hi]
      exact hw i hi
    refine ⟨l, h1.1, h1.2, ?_⟩
    unfold namesOf
    rw [h3, List.map_map]
    unfold fsOf
    rw [List.map_map]
    rfl
/-- the rows of good fields -/
def fsR (rs : List Vw) : List (Str × List Str) := rs.map fun r => (nameOf r, match r with
  | some (_ :: ws) => ws.map (·.getD "")
  | _ => [])
theorem fsR_of (fs : List (Str × List Str)) : fsR (fs.map fun z => some ((z.1 :: z.2).map some)) = fs := by
  unfold fsR
  rw [List.map_map]
  refine (List.map_congr_left fun z _ => ?_).trans (List.map_id _)
  show ((z.1, (z.2.map some).map (·.getD "")) : Str × List Str) = z
  rw [List.map_map]
  have : (z.2.map ((·.getD "") ∘ some)) = z.2 := (List.map_congr_left fun _ _ => rfl).trans (List.map_id _)
  rw [this]
/-- what is told of fields and of what is shown, as a tuple -/
def OutAt (H : Hp) (v : V) (rs : List Vw) (sr : Vw) : Prop := ∃ p, v = .ref p ∧
  ((∃ n, n < rs.length ∧ whyP rs n ≠ .non ∧ (∀ i, i < n → whyP rs i = .non) ∧ H p = some (.tup [.str "rule", .int (n : Nat), whyP rs n])) ∨
   ((∀ i, i < rs.length → whyP rs i = .non) ∧ shownR (namesOf rs rs.length) sr = false ∧ H p = some (.tup [.str "rule", .non, .str "show"])) ∨
   ((∀ i, i < rs.length → whyP rs i = .non) ∧ shownR (namesOf rs rs.length) sr = true ∧ ∃ q xs, H p = some (.tup [.str "made", .ref q]) ∧ H q = some (.lst xs) ∧ RowsT H xs (fsR rs)))
theorem OutAt.ex {H H' : Hp} {v : V} {rs : List Vw} {sr : Vw} (e : Ex H H') (h : OutAt H v rs sr) : OutAt H' v rs sr := by
  obtain ⟨p, rfl, h⟩ := h
  refine ⟨p, rfl, ?_⟩
  rcases h with ⟨n, h1, h2, h3, h4⟩ | ⟨h1, h2, h3⟩ | ⟨h1, h2, q, xs, h3, h4, h5⟩
  · exact .inl ⟨n, h1, h2, h3, e _ _ h4⟩
  · exact .inr (.inl ⟨h1, h2, e _ _ h3⟩)
  · exact .inr (.inr ⟨h1, h2, q, xs, e _ _ h3, e _ _ h4, h5.same e⟩)
theorem shown_cut {names : List Str} (hn : ∀ s ∈ names, isW s = true) (o1 o2 : Option Str) : shownR names (some [o1, o2]) = (!outB ways o1 && !outB names o2) := by
  cases o2 with
  | none => show ((!outB ways o1 && false) && false) = (!outB ways o1 && !true); simp
  | some s =>
    show ((!outB ways o1 && isW s) && decide (s ∈ names)) = (!outB ways o1 && !!decide (s ∈ names))
    by_cases h : s ∈ names
    · rw [hn s h]; simp
    · simp [h]
theorem shown_short {names : List Str} {ws : List (Option Str)} (h : ws.length ≠ 2) : shownR names (some ws) = false := by
  match ws, h with
  | [], _ => rfl
  | [_], _ => rfl
  | [_, _], h => exact absurd rfl h
  | _ :: _ :: _ :: _, _ => rfl
section
variable {P : Program} {w : World} {K : PySem.W.Frag} {mg : Str → Option Value} {base : Heap} {f : Addr} {fd : FuncData}
theorem ev_isS {σ : L2.St} {H : Hp} {te : TE} {x : V} (h : Ev te σ H x) (hw : WdV K H x (isWV x)) : Ev (tCB (rIsi K) (tCons te (tCons (tC (.ty "str")) tNil))) σ H (.bl (tx x).isSome) := by
  cases x with
  | str s => exact ev_isi (b := true) h (.ty _) (fun _ _ => .base (.str s)) (kit_ty (by decide +kernel))
  | _ =>
    rcases hw with ⟨s, e, _⟩ | ⟨⟨t, ty, hk⟩, _⟩
    · cases e
    · exact ev_isi (b := false) h (.ty _) ty hk
def spReason (K : PySem.W.Frag) : Sp := fun vs H Q _ => ∃ (v : V) (l : Addr) (r : Vw) (names : List Str), vs = [v, .ref l] ∧ FvAt K H v r ∧ H l = some (.lst (names.map V.str)) ∧ ∀ H', Ex H H' → Q (wrongR names r) H'
abbrev s_reason : Stmt := top 33
theorem sc_reason : FnScope ["_law_x", "_law_ahead", "_law_k", "_law_some"] ["_law_x", "_law_ahead"] (defScope s_reason) := ⟨rfl, rfl, rfl, by decide +kernel, rfl, by decide +kernel, by decide +kernel⟩
theorem ok_reason {fI fP : Addr} {fdI fdP : FuncData} (F : L2.Fun K "_law_reason" "_law_reason" s_reason f fd) (T : Blt mg) (D_is_wordL : DefOk P w K mg base 1 "_law_is_word" fI fdI ["_law_x"] (spIsWordA K)) (D_parts : DefOk P w K mg base 1 "_law_parts" fP fdP [] spParts) :
    FnOk P w K mg base CX0 2 f fd ["_law_x", "_law_ahead"] (spReason K) := by
  refine F.ok sc_reason (fun vs H Q E h => ?_) (fun cdv A outer s H vs Q E hr h => ?_)
  · obtain ⟨v, l, r, names, rfl, _⟩ := h
    rfl
  · obtain ⟨v, l, r, names, rfl, hf, hl, k⟩ := h
    refine ⟨_, (pss_cons (ps_if (PW.pt (pw_or (pt_not (pt_val (pe_callB call_isiT (by rfl) T.b_isinstance (by decide +kernel) (pa_cons (pv 0) (pa_cons (pe_tup (pa_cons (pe_bltn (v := .ty "list") (u := .type "list") (by rfl) T.b_list (by decide +kernel) rfl) (pa_cons (pe_bltn (v := .ty "tuple") (u := .type "tuple") (by rfl) T.b_tuple (by decide +kernel) rfl) pa_nil))) pa_nil))))) (pw_or1 (pt_cmpR op_ne (pe_callB call_len_seq (by rfl) T.b_len PySem.boot_len (pa_cons (pv 0) pa_nil)) pe_int (nomark _))))) (pss_one (ps_ret pe_str)) pss_nil)
        (pss_cons (ps_if (PW.pt (pw_or (pt_not (pt_val (pe_d D_is_wordL (hr.mono (by decide)) (pa_cons (pe_ix ix_seq (pv 0) pe_int (fun _ _ => rfl)) pa_nil)))) (pw_or1 (pt_cmpR op_in_seq (pe_ix ix_seq (pv 0) pe_int (fun _ _ => rfl)) (pv 1) (by rfl))))) (pss_one (ps_ret pe_str)) pss_nil)
        (pss_cons (ps_for PassesOwn.never rfl (pi_enumA rfl T.b_enumerate (pa_cons (pe_d0 D_parts (hr.mono (by decide))) pa_nil)) (pg_tup rfl (pgs_cons (pg_name (i := 2) sc_reason.nd rfl (by first | exact Or.inl rfl | exact Or.inr rfl)) (pgs_cons (pg_name (i := 3) sc_reason.nd rfl (by first | exact Or.inl rfl | exact Or.inr rfl)) pgs_nil))) (pss_one (ps_if (PW.pt (pw_or (pt_not (pt_val (pe_callB call_isi (by rfl) T.b_isinstance (by decide +kernel) (pa_cons (pe_ix ix_seq (pv 0) (pe_op op_add (pv 2) pe_int) (fun _ _ => rfl)) (pa_cons (pe_bltn (v := .ty "str") (u := .type "str") (by rfl) T.b_str (by decide +kernel) rfl) pa_nil))))) (pw_or1 (pt_cmpR op_notIn_seq (pe_ix ix_seq (pv 0) (pe_op op_add (pv 2) pe_int) (fun _ _ => rfl)) (pv 3) (by rfl))))) (pss_one (ps_ret (pe_ix ix_list (pe_lst (pa_cons pe_str (pa_cons pe_str (pa_cons pe_str (pa_cons pe_str (pa_cons pe_str (pa_cons pe_str pa_nil))))))) (pv 2) (fun _ _ => rfl)))) pss_nil)))
        (pss_one (ps_ret pe_non))))), ?_⟩
    rcases id hf with ⟨a, xs, rfl, ha, ho, rfl⟩ | ⟨hno, rfl⟩
    rotate_left
    · exact q_when (b := true) (et_or (b := true) (et_not (et_B (ev_isSeqO (r := none) (ev_var rfl) hf))) fun z => nomatch z) (fun _ H1 e1 => s_ret ev_c fun H2 e2 => k H2 (Ex.trans e1 e2)) (fun z => nomatch z)
    have hlen : EvT (tTest (tOp rNe (tCB (rLenS K) (tCons (tVar 0) tNil)) (tC (.int 7)))) [some (.ref a), some (.ref l), none, none] H (!decide (xs.length = 7)) := by
      refine et_is (et_test (ev_op (ev_lenQ1 (ev_var rfl) ha) ev_c (rv_ne rfl))) ?_
      have : (V.int (xs.length : Int) = V.int 7) = (xs.length = 7) := propext ⟨fun z => by have := V.int.inj z; omega, fun z => by rw [z]; rfl⟩
      simp only [this]
    by_cases l7 : xs.length = 7
    rotate_left
    · have kw : wrongR names (some (xs.map tx)) = .str "field" := by
        show (if (xs.map tx).length = 7 then _ else V.str "field") = _
        rw [if_neg (by rw [List.length_map]; exact l7)]
      rw [kw] at k
      exact q_when (b := true) (et_is (et_or (et_not (et_B (ev_isSeqO (ev_var rfl) hf))) fun _ => hlen) (by rw [decide_eq_false l7]; rfl)) (fun _ H1 e1 => s_ret ev_c fun H2 e2 => k H2 (Ex.trans e1 e2)) (fun z => nomatch z)
    refine q_when (b := false) (et_is (et_or (et_not (et_B (ev_isSeqO (ev_var rfl) hf))) fun _ => hlen) (by rw [decide_eq_true l7]; rfl)) (fun z => nomatch z) fun _ H1 e1 => ?_
    have ha1 := ha.same e1
    have hl1 := e1 _ _ hl
    have ho1 := ho.ex e1
    obtain ⟨x0, r0, rfl⟩ : ∃ x r, xs = x :: r := by cases xs with | nil => cases l7 | cons x r => exact ⟨x, r, rfl⟩
    have l6 : r0.length = 6 := by simpa using l7
    have e0 : ∀ {H2 : Hp} {σ : L2.St}, Ex H1 H2 → σ[0]? = some (some (.ref a)) → Ev (tOp (rIx K) (tVar 0) (tC (.int 0))) σ H2 x0 := fun e2 h0 => ev_op (ev_var h0) ev_c (rv_ixQ1 (n := 0) (ha1.same e2) rfl)
    have kw : wrongR names (some ((x0 :: r0).map tx)) = if nmB names (tx x0) then .str "name" else wrongW ((x0 :: r0).map tx) := by
      show (if ((x0 :: r0).map tx).length = 7 then (if nmB names (tx x0) then V.str "name" else wrongW ((x0 :: r0).map tx)) else _) = _
      rw [if_pos (by rw [List.length_map]; exact l7)]
    have test : EvT (tOr (tNot (tTest (tCall (spIsWordA K) [] E0 (tCons (tOp (rIx K) (tVar 0) (tC (.int 0))) tNil)))) (tTest (tOp (rIn K false) (tOp (rIx K) (tVar 0) (tC (.int 0))) (tVar 1)))) [some (.ref a), some (.ref l), none, none] H1 (nmB names (tx x0)) := by
      have hw := isw_call (e0 (Ex.refl _) rfl : Ev _ [some (.ref a), some (.ref l), none, none] H1 x0) (ho1 x0 (by simp)).2
      cases x0 with
      | str s => exact et_is (et_or (et_not (et_B hw)) fun _ => et_test (ev_op (e0 (Ex.refl _) rfl) (ev_var rfl) (rv_isL (sq_of hl1) rfl (strs_flat1 _)))) (by rw [strs_in1]; rfl)
      | _ => exact et_is (et_or (b := true) (et_not (et_B hw)) fun z => nomatch z) rfl
    refine q_when test (fun hb H2 e2 => ?_) fun hb H2 e2 => ?_
    · rw [kw, if_pos hb] at k
      exact s_ret ev_c fun H3 e3 => k H3 (Ex.trans e1 (Ex.trans e2 e3))
    rw [kw, hb, if_neg (by simp)] at k
    have e02 := Ex.trans e1 e2
    have ho2 := ho1.ex e2
    have ha2 := ha1.same e2
    have hg : ∀ i, (x0 :: r0)[i + 1]? = r0[i]? := fun i => rfl
    obtain ⟨N, hN, hlo, hbad, hend⟩ : ∃ N, N ≤ 6 ∧ (∀ i, i < N → cb ((x0 :: r0).map tx) i = false) ∧ (N < 6 → cb ((x0 :: r0).map tx) N = true ∧ wrongW ((x0 :: r0).map tx) = .str (colN.getD N "")) ∧ (N = 6 → wrongW ((x0 :: r0).map tx) = .non) := by
      unfold wrongW
      rcases find_first (p := cb ((x0 :: r0).map tx)) (n := 6) with ⟨h1, h2⟩ | ⟨j, h1, h2, h3, h4⟩
      · rw [h1]; exact ⟨6, Nat.le_refl _, h2, fun z => absurd z (Nat.lt_irrefl _), fun _ => rfl⟩
      · rw [h1]; exact ⟨j, Nat.le_of_lt h2, h4, fun _ => ⟨h3, rfl⟩, fun z => by omega⟩
    refine ⟨rfl, fun p ps H3 np e3 hp hps => ?_⟩
    have e03 := Ex.trans e02 e3
    have lp : ps.length = 6 := hps.1
    have ho3 := ho2.ex e3
    have ha3 := ha2.same e3
    refine for_enumA1 (.inl hp) (fun i σ' H' => i ≤ N ∧ ∃ u2 u3 : Option V, σ' = [some (.ref a), some (.ref l), u2, u3] ∧ Same H3 H') ⟨Nat.zero_le _, _, _, rfl, Same.refl _⟩ (fun i σ' H' _ ⟨_, _, _, _, e⟩ o ho => e _ _ ho) ?_ ?_
    · rintro i x σ' H4 H5 hi ⟨hin, u2, u3, rfl, e⟩ ⟨tpa, x1, x2, rfl, nT, rfl, hx1, hx2⟩
      cases (Option.some.inj hx1)
      have hx2 : ps[i]? = some x2 := hx2
      have hi6 : i < 6 := by omega
      obtain ⟨c, hc⟩ : ∃ c, cols[i]? = some c := ⟨_, List.getElem?_eq_getElem (by show i < 6; exact hi6)⟩
      obtain ⟨cp, hcp, hct⟩ := hps.2 i c hc
      obtain rfl : V.ref cp = x2 := Option.some.inj (hcp.symm.trans hx2)
      have eT := Same.upd' nT (o := .tup [.int (i : Nat), .ref cp])
      have e4 := Same.trans e eT
      have hct4 := e4 _ _ hct
      refine ⟨tpa, _, rfl, SqT.of upd_same, rfl, _, _, rfl, _, _, rfl, rfl, ?_⟩
      dsimp only [List.set]
      generalize upd H4 tpa (.tup [.int (i : Nat), .ref cp]) = H6 at e4 hct4 ⊢
      obtain ⟨y, hy⟩ : ∃ y, r0[i]? = some y := ⟨_, List.getElem?_eq_getElem (by omega)⟩
      have hym : y ∈ x0 :: r0 := List.mem_of_getElem? ((hg i).trans hy)
      have ix : ∀ {H7 : Hp}, Ex H6 H7 → Ev (tOp (rIx K) (tVar 0) (tOp rAdd (tVar 2) (tC (.int 1)))) [some (.ref a), some (.ref l), some (.int (i : Nat)), some (.ref cp)] H7 y := fun e7 => ev_op (ev_var rfl) (ev_op (ev_var rfl) ev_c rv_I0) (by
        have : ((i : Int) + 1) = ((i + 1 : Nat) : Int) := by omega
        show RV (rIx K) (.ref a) (.int ((i : Int) + 1)) _ y
        rw [this]
        exact rv_ixQ1 (ha3.same (Ex.trans e4 e7)) ((hg i).trans hy))
      have oy := ho3.ex e4 y hym
      have hcb : outB c (tx y) = cb ((x0 :: r0).map tx) i := by
        unfold cb
        rw [tx_getD ((hg i).trans hy), List.getD_eq_getElem?_getD, hc]
        rfl
      have test2 : EvT (tOr (tNot (tTest (tCB (rIsi K) (tCons (tOp (rIx K) (tVar 0) (tOp rAdd (tVar 2) (tC (.int 1)))) (tCons (tC (.ty "str")) tNil))))) (tTest (tOp (rIn K true) (tOp (rIx K) (tVar 0) (tOp rAdd (tVar 2) (tC (.int 1)))) (tVar 3)))) [some (.ref a), some (.ref l), some (.int (i : Nat)), some (.ref cp)] H6 (cb ((x0 :: r0).map tx) i) := by
        have hs := ev_isS (K := K) (ix (Ex.refl _)) oy.2
        rw [← hcb]
        cases y with
        | str s => exact et_is (et_or (et_not (et_B hs)) fun _ => et_test (b := outB c (some s)) fun H7 e7 Q' q => ix e7 H7 (Ex.refl _) _ fun H8 e8 => ⟨_, rfl, cp, c.map V.str, rfl, .inr (SqT.of (e8 _ _ (e7 _ _ hct4))), rfl, strs_flat1 _, by
            show Q' (.bl (!inV (.str s) (c.map V.str))) H8
            rw [strs_in1]
            exact q H8 e8⟩) rfl
        | _ => exact et_is (et_or (b := true) (et_not (et_B hs)) fun z => nomatch z) rfl
      refine s_when test2 (fun hb5 H7 e7 => ?_) fun hb5 H7 e7 => ?_
      · have hNi : N = i := by
          rcases Nat.lt_or_ge i N with h | h
          · rw [hlo i h] at hb5; cases hb5
          · omega
        subst hNi
        have hw := (hbad hi6).2
        rw [hw] at k
        refine s_ret (v := .str (colN.getD N "")) ?_ fun H8 e8 => k H8 (Ex.trans e03 (Ex.trans e4 (Ex.trans e7 e8)))
        exact fun H8 e8 Q' q => (el_lst (vs := colN.map V.str) (ea_cons ev_c (ea_cons ev_c (ea_cons ev_c (ea_cons ev_c (ea_cons ev_c (ea_cons ev_c ea_nil)))))) (by show 6 ≤ 100000; decide)) H8 e8 _ fun p H9 np e9 hp => ⟨_, rfl, rv_ixL (SqL.of hp) (atI_nat (by rw [List.getElem?_map, List.getD_eq_getElem?_getD, List.getElem?_eq_getElem (by show N < 6; exact hi6)]; rfl)) H9 (Ex.refl _) Q' fun H10 e10 => q H10 (Ex.trans e9 e10)⟩
      · have hlt : i < N := by
          rcases Nat.lt_or_ge i N with h | h
          · exact h
          · have : i = N := by omega
            subst this
            rw [(hbad hi6).1] at hb5
            cases hb5
        exact ⟨hlt, _, _, rfl, Same.trans e4 e7⟩
    · rintro σ' H' ⟨h6, u2, u3, rfl, e⟩
      show tRet (tC .non) { nx := fun _ H' => Q .non H', rt := Q } [some (.ref a), some (.ref l), u2, u3] H'
      exact s_ret ev_c fun H5 e5 => by
        have := k H5 (Ex.trans e03 (Ex.trans e e5))
        rw [hend (by omega)] at this
        exact this
theorem s_retC1 {te : TE} {v : V} {D : Ends} {σ : L2.St} {H : Hp} (h : te σ H fun x H1 => [v, x].length ≤ sizeLine ∧ ∀ p, H1 p = none → D.rt (.ref p) (upd H1 p (.tup [v, x]))) : tRet (tTup (tCons (tC v) (tCons te tNil))) D σ H := h
/-- what is due of fields and of what is shown -/
def spDue (K : PySem.W.Frag) : Sp := fun vs H Q _ => ∃ (a : Addr) (b : V) (xs : List V) (rs : List Vw) (sr : Vw), vs = [.ref a, b] ∧ H a = some (.lst xs) ∧ RvAt K H xs rs ∧ 0 < rs.length ∧ rs.length ≤ 9 ∧ FvAt K H b sr ∧ ∀ p H', H p = none → Ex H H' → OutAt H' (.ref p) rs sr → Q (.ref p) H'
abbrev s_due : Stmt := top 34
theorem sc_due : FnScope ["_law_rows", "_law_shown", "_law_k", "_law_x", "_law_reason_here", "_law_row"] ["_law_rows", "_law_shown"] (defScope s_due) := ⟨rfl, rfl, rfl, by decide +kernel, rfl, by decide +kernel, by decide +kernel⟩
theorem ok_due {fR : Addr} {fdR : FuncData} (F : L2.Fun K "_law_due" "_law_due" s_due f fd) (T : Blt mg) (D_reason : DefOk P w K mg base 2 "_law_reason" fR fdR ["_law_x", "_law_ahead"] (spReason K)) :
    FnOk P w K mg base CX0 3 f fd ["_law_rows", "_law_shown"] (spDue K) := by
  refine F.ok sc_due (fun vs H Q E h => ?_) (fun cdv A outer s H vs Q E hr h => ?_)
  · obtain ⟨a, b, xs, rs, sr, rfl, _⟩ := h
    rfl
  · obtain ⟨a, b, xs, rs, sr, rfl, ha, hR, l0, l9, hb, k⟩ := h
    refine ⟨_, (pss_cons (ps_for PassesOwn.never rfl (pi_enumA rfl T.b_enumerate (pa_cons (pv 0) pa_nil)) (pg_tup rfl (pgs_cons (pg_name (i := 2) sc_due.nd rfl (by first | exact Or.inl rfl | exact Or.inr rfl)) (pgs_cons (pg_name (i := 3) sc_due.nd rfl (by first | exact Or.inl rfl | exact Or.inr rfl)) pgs_nil))) (pss_cons (ps_set (i := 4) sc_due.nd rfl (by first | exact Or.inl rfl | exact Or.inr rfl) (pe_ifExp (pt_cmpR op_eq (pv 2) pe_int (nomark _)) pe_str (pe_d D_reason (hr.mono (by decide)) (by exact (pa_cons (pv 3) (pa_cons (pe_lc (own := [("_law_row", 5)]) (g := gName 5) (tt := tYes) (te := (tOp (rIx K) (tVar 5) (tC (.int 0)))) rfl sc_due.nd (pi_list (pe_slice sl_list (pv 0) po_none (po_some (pv 2)))) (blkOk_by (own := [("_law_row", 5)]) (by kernel_rfl)) (fun _ _ _ _ _ => (pg_name (i := 5) sc_due.nd rfl (by first | exact Or.inl rfl | exact Or.inr rfl))) (fun _ _ _ _ _ => pts_nil) (fun _ _ _ _ _ => by exact (pe_ix ix_seq (pv 5) pe_int (fun _ _ => rfl)))) pa_nil))))))
        (pss_one (ps_if (pt_cmpR op_notN1 (pv 4) pe_non (nomark _)) (pss_one (ps_ret (pe_tup (pa_cons pe_str (pa_cons (pv 2) (pa_cons (pv 4) pa_nil)))))) pss_nil))))
        (pss_cons (ps_if (pt_cmpR op_eq (pe_callB call_len_seq (by rfl) T.b_len PySem.boot_len (pa_cons (pv 0) pa_nil)) pe_int (nomark _)) (pss_one (ps_ret (pe_tup (pa_cons pe_str (pa_cons pe_int (pa_cons pe_str pa_nil)))))) pss_nil)
        (pss_cons (ps_if (PW.pt (pw_or (pt_not (pt_val (pe_callB call_isiT (by rfl) T.b_isinstance (by decide +kernel) (pa_cons (pv 1) (pa_cons (pe_tup (pa_cons (pe_bltn (v := .ty "list") (u := .type "list") (by rfl) T.b_list (by decide +kernel) rfl) (pa_cons (pe_bltn (v := .ty "tuple") (u := .type "tuple") (by rfl) T.b_tuple (by decide +kernel) rfl) pa_nil))) pa_nil))))) (pw_or (pt_cmpR op_ne (pe_callB call_len_seq (by rfl) T.b_len PySem.boot_len (pa_cons (pv 1) pa_nil)) pe_int (nomark _)) (pw_or1 (pt_cmpR (op_notInT hr.units) (pe_ix ix_seq (pv 1) pe_int (fun _ _ => rfl)) (pe_lst (pa_cons pe_str (pa_cons pe_str (pa_cons pe_str pa_nil)))) (by rfl)))))) (pss_one (ps_ret (pe_tup (pa_cons pe_str (pa_cons pe_non (pa_cons pe_str pa_nil)))))) pss_nil)
        (pss_cons (ps_if (pt_cmpR (op_notInT hr.units) (pe_ix ix_seq (pv 1) pe_int (fun _ _ => rfl)) (pe_lc (own := [("_law_row", 5)]) (g := gName 5) (tt := tYes) (te := (tOp (rIx K) (tVar 5) (tC (.int 0)))) rfl sc_due.nd (pi_list (pv 0)) (blkOk_by (own := [("_law_row", 5)]) (by kernel_rfl)) (fun _ _ _ _ _ => (pg_name (i := 5) sc_due.nd rfl (by first | exact Or.inl rfl | exact Or.inr rfl))) (fun _ _ _ _ _ => pts_nil) (fun _ _ _ _ _ => by exact (pe_ix ix_seq (pv 5) pe_int (fun _ _ => rfl)))) (by rfl)) (pss_one (ps_ret (pe_tup (pa_cons pe_str (pa_cons pe_non (pa_cons pe_str pa_nil)))))) pss_nil)
        (pss_one (ps_ret (pe_tup (by exact (pa_cons pe_str (pa_cons (pe_lc (own := [("_law_row", 5)]) (g := gName 5) (tt := tYes) (te := (tCB (rTupOf K) (tCons (tVar 5) tNil))) rfl sc_due.nd (pi_list (pv 0)) (blkOk_by (own := [("_law_row", 5)]) (by kernel_rfl)) (fun _ _ _ _ _ => (pg_name (i := 5) sc_due.nd rfl (by first | exact Or.inl rfl | exact Or.inr rfl))) (fun _ _ _ _ _ => pts_nil) (fun _ _ _ _ _ => by exact (pe_callTy call_tuple_of (by rfl) T.b_tuple (by decide +kernel) (pa_cons (pv 5) pa_nil)))) pa_nil)))))))))), ?_⟩
    have lx := hR.len
    obtain ⟨N, hN, hlo, hbad⟩ : ∃ N, N ≤ rs.length ∧ (∀ i, i < N → whyP rs i = .non) ∧ (N < rs.length → whyP rs N ≠ .non) := by
      rcases find_first (p := fun i => !decide (whyP rs i = .non)) (n := rs.length) with ⟨_, h2⟩ | ⟨j, _, h2, h3, h4⟩
      · exact ⟨rs.length, Nat.le_refl _, fun i hi => by simpa using h2 i hi, fun z => absurd z (Nat.lt_irrefl _)⟩
      · exact ⟨j, Nat.le_of_lt h2, fun i hi => by simpa using h4 i hi, fun _ => by simpa using h3⟩
    refine ⟨_, rfl, for_enumA1 (.inl ha) (fun i σ' H' => i ≤ N ∧ ∃ u2 u3 u4 u5 : Option V, σ' = [some (.ref a), some b, u2, u3, u4, u5] ∧ Same H H') ⟨Nat.zero_le _, _, _, _, _, rfl, Same.refl _⟩ (fun i σ' H' _ ⟨_, _, _, _, _, _, e⟩ o ho => e _ _ ho) ?_ ?_⟩
    · rintro i x σ' H3 H4 hi ⟨hin, u2, u3, u4, u5, rfl, e⟩ ⟨tpa, x1, x2, rfl, nT, rfl, hx1, hx2⟩
      cases (Option.some.inj hx1)
      have hif : i < rs.length := by omega
      obtain ⟨r, hz⟩ : ∃ z, rs[i]? = some z := ⟨_, List.getElem?_eq_getElem hif⟩
      obtain ⟨v, hv, hf⟩ := hR.at_ i _ hz
      have hx2 : xs[i]? = some x2 := hx2
      obtain rfl : v = x2 := Option.some.inj (hv.symm.trans hx2)
      have eT := Same.upd' nT (o := .tup [.int (i : Nat), v])
      have e4 := Same.trans e eT
      refine ⟨tpa, _, rfl, SqT.of upd_same, rfl, _, _, rfl, _, _, rfl, rfl, ?_⟩
      dsimp only [List.set]
      generalize upd H3 tpa (.tup [.int (i : Nat), v]) = H4 at e4 ⊢
      have ha4 := e4 _ _ ha
      obtain ⟨l, hl1, hl2, hl3⟩ := heads hR (Nat.le_of_lt hif) (k := i) fun j hj => hlo j (by omega)
      have hln : (namesOf rs i).length = i := by unfold namesOf; rw [List.length_map, List.length_take]; omega
      have hwy : whyP rs i = if i = 3 then .str "field" else wrongR (namesOf rs i) r := by
        unfold whyP
        rw [hln, List.getD_eq_getElem?_getD, hz]
        rfl
      have e3 : EvT (tTest (tOp rEq (tVar 2) (tC (.int 3)))) [some (.ref a), some b, some (.int (i : Nat)), some v, u4, u5] H4 (decide (i = 3)) := by
        refine et_is (et_test (ev_op (ev_var rfl) ev_c (rv_eq rfl))) ?_
        have : (V.int (i : Int) = V.int 3) = (i = 3) := propext ⟨fun z => by have := V.int.inj z; omega, fun z => by rw [z]; rfl⟩
        simp only [this]
      have er : Ev (tIf (tTest (tOp rEq (tVar 2) (tC (.int 3)))) (tC (.str "field")) (tCall (spReason K) [] E0 (tCons (tVar 3) (tCons (tLc (iList K (tSl (rSlL K) (tVar 0) tNoPart (tPart (tVar 2)))) (gName 5) tYes (tOp (rIx K) (tVar 5) (tC (.int 0))) [5]) tNil)))) [some (.ref a), some b, some (.int (i : Nat)), some v, u4, u5] H4 (whyP rs i) := by
        rw [hwy]
        refine fun H5 e5 Q' q => e3 H5 e5 _ fun H6 e6 => ?_
        by_cases h3 : i = 3
        · rw [decide_eq_true h3]
          rw [if_pos h3] at q
          exact q H6 e6
        · rw [decide_eq_false h3]
          rw [if_neg h3] at q
          have e46 := Ex.trans e5 e6
          have hsl : EvL (tSl (rSlL K) (tVar 0) tNoPart (tPart (tVar 2))) [some (.ref a), some b, some (.int (i : Nat)), some v, u4, u5] H6 (l.map fun z => V.ref z.1) := by
            have := el_sl (K := K) (xs := xs) (lo := none) (hi := some (i : Int)) (te := tVar 0) (ev_var (σ := [some (.ref a), some b, some (.int (i : Nat)), some v, u4, u5]) rfl) eo_none (eo_some (ev_var (σ := [some (.ref a), some b, some (.int (i : Nat)), some v, u4, u5]) (i := 2) rfl)) (sq_of (e46 _ _ ha4))
            rw [cutV_to22, hl1] at this
            exact this
          have l9' : l.length ≤ 40000 := by
            have := congrArg List.length hl3
            rw [hln, List.length_map] at this
            omega
          have hls : EvL (tLc (iList K (tSl (rSlL K) (tVar 0) tNoPart (tPart (tVar 2)))) (gName 5) tYes (tOp (rIx K) (tVar 5) (tC (.int 0))) [5]) [some (.ref a), some b, some (.int (i : Nat)), some v, u4, u5] H6 (l.map fun z => V.str z.2.1) := el_mapN hsl l9' fun z hz7 H7 e7 => ev_op (ev_var rfl) ev_c (rv_ixQ1 (n := 0) ((hl2 z hz7).same (Ex.trans e4 (Ex.trans e46 e7))) rfl)
          exact ⟨_, rfl, hls H6 (Ex.refl _) _ fun p H7 np e7 hp => ⟨v, p, r, namesOf rs i, rfl, hf.ex (Ex.trans e4 (Ex.trans e46 e7)), by rw [hl3, List.map_map]; exact hp, fun H8 e8 => q H8 (Ex.trans e6 (Ex.trans e7 e8))⟩⟩
      refine q_asg er fun H5 e5 => ?_
      dsimp only [gName, List.set]
      refine s_when (et_test (ev_notN (x := whyP rs i) (ev_var rfl))) (fun hb5 H6 e6 => ?_) fun hb5 H6 e6 => ?_
      · have hNi : N = i := by
          rcases Nat.lt_or_ge i N with h | h
          · rw [hlo i h] at hb5; simp at hb5
          · omega
        subst hNi
        exact s_retU (eu_tup (ea_cons ev_c (ea_cons (ev_var rfl) (ea_cons (ev_var rfl) ea_nil))) (by show 3 ≤ 100000; decide)) fun p H7 np e7 hp => k p H7 (fresh_back (Ex.trans e4 (Ex.trans e5 e6)) np) (Ex.trans (Ex.trans e4 (Ex.trans e5 e6)) e7) ⟨p, rfl, .inl ⟨N, hif, hbad hif, hlo, hp⟩⟩
      · have hlt : i < N := by
          rcases Nat.lt_or_ge i N with h | h
          · exact h
          · have : i = N := by omega
            subst this
            exact absurd (by simpa using hb5) (hbad hif)
        exact ⟨hlt, _, _, _, _, rfl, Same.trans e4 (Ex.trans e5 e6)⟩
    · rintro σ' H1 ⟨hid, u2, u3, u4, u5, rfl, e1⟩
      have hNr : N = rs.length := by omega
      subst hNr
      have ha1 := e1 _ _ ha
      have hb1 := hb.ex e1
      obtain ⟨l, hz, hok, hrs⟩ := rows_good (hR.ex e1) l0 hlo
      have hnm : namesOf rs rs.length = (fsOf l).map fun z => z.1 := by
        unfold namesOf
        rw [List.take_length]
        conv => lhs; rw [hrs]
        rw [List.map_map]
        rfl
      have hwd : ∀ s ∈ namesOf rs rs.length, isW s = true := fun s hs => by
        rw [hnm] at hs
        obtain ⟨z, hz', rfl⟩ := List.mem_map.mp hs
        exact (hok.ok z hz').wd
      have hfs : fsR rs = fsOf l := by
        conv => lhs; rw [hrs]
        exact fsR_of _
      have sh : ∀ (b' : Bool) (H2 : Hp) (D : Ends), D.rt = Q → Ex H1 H2 → shownR (namesOf rs rs.length) sr = false → tRet (tTup (tCons (tC (.str "rule")) (tCons (tC .non) (tCons (tC (.str "show")) tNil)))) D [some (.ref a), some b, u2, u3, u4, u5] H2 := fun b' H2 D hD e2 hs => s_retU (eu_tup (vs := [.str "rule", .non, .str "show"]) (ea_cons ev_c (ea_cons ev_c (ea_cons ev_c ea_nil))) (by show 3 ≤ 100000; decide)) fun p H3 np e3 hp => by
        rw [hD]
        exact k p H3 (fresh_back (Ex.trans e1 e2) np) (Ex.trans e1 (Ex.trans e2 e3)) ⟨p, rfl, .inr (.inl ⟨hlo, hs, hp⟩)⟩
      have n0 : EvT (tTest (tOp rEq (tCB (rLenS K) (tCons (tVar 0) tNil)) (tC (.int 0)))) [some (.ref a), some b, u2, u3, u4, u5] H1 false := by
        refine et_is (et_test (ev_op (ev_lenL (ev_var rfl) ha1) ev_c (rv_eq rfl))) ?_
        have : ¬ V.int (xs.length : Int) = V.int 0 := fun z => by have := V.int.inj z; omega
        simp [this]
      refine q_when n0 (fun z => nomatch z) fun _ H2 e2 => ?_
      have hb2 := hb1.ex e2
      have ha2 := e2 _ _ ha1
      have isr := ev_isSeqO (K := K) (te := tVar 1) (σ := [some (.ref a), some b, u2, u3, u4, u5]) (ev_var rfl) hb2
      rcases id hb2 with ⟨c, ys, rfl, hy, ho, rfl⟩ | ⟨_, rfl⟩
      rotate_left
      · exact q_when (b := true) (et_or (b := true) (et_not (et_B isr)) fun z => nomatch z) (fun _ H3 e3 => sh true H3 _ rfl (Ex.trans e2 e3) rfl) (fun z => nomatch z)
      have hlen : EvT (tTest (tOp rNe (tCB (rLenS K) (tCons (tVar 1) tNil)) (tC (.int 2)))) [some (.ref a), some (.ref c), u2, u3, u4, u5] H2 (!decide (ys.length = 2)) := by
        refine et_is (et_test (ev_op (ev_lenQ1 (ev_var rfl) hy) ev_c (rv_ne rfl))) ?_
        have : (V.int (ys.length : Int) = V.int 2) = (ys.length = 2) := propext ⟨fun z => by have := V.int.inj z; omega, fun z => by rw [z]; rfl⟩
        simp only [this]
      by_cases l2 : ys.length = 2
      rotate_left
      · exact q_when (b := true) (et_is (et_or (et_not (et_B isr)) fun _ => et_or (a := true) (b := true) (et_is hlen (by rw [decide_eq_false l2]; rfl)) fun z => nomatch z) rfl) (fun _ H3 e3 => sh true H3 _ rfl (Ex.trans e2 e3) (shown_short (by rw [List.length_map]; exact l2))) (fun z => nomatch z)
      obtain ⟨y0, y1, rfl⟩ : ∃ y0 y1, ys = [y0, y1] := by
        match ys, l2 with
        | [p, q], _ => exact ⟨p, q, rfl⟩
      have ix : ∀ {H3 : Hp} {n : Nat} {y : V}, Ex H2 H3 → [y0, y1][n]? = some y → Ev (tOp (rIx K) (tVar 1) (tC (.int (n : Nat)))) [some (.ref a), some (.ref c), u2, u3, u4, u5] H3 y := fun e hn => ev_op (ev_var rfl) ev_c (rv_ixQ1 (hy.same e) hn)
      have hcut := shown_cut hwd (tx y0) (tx y1)
      have t0 : Ev (tOp (rInT K true) (tOp (rIx K) (tVar 1) (tC (.int 0))) (tLst (tCons (tC (.str "stay")) (tCons (tC (.str "field")) (tCons (tC (.str "greater")) tNil))))) [some (.ref a), some (.ref c), u2, u3, u4, u5] H2 (.bl (outB ways (tx y0))) := fun H3 e3 Q' q => ix e3 (n := 0) rfl H3 (Ex.refl _) _ fun H4 e4 => (el_lst (vs := ways.map V.str) (ea_cons ev_c (ea_cons ev_c (ea_cons ev_c ea_nil))) (by show 3 ≤ 100000; decide)) H4 (Ex.refl _) _ fun p H5 np e5 hp => ⟨p, ways, rfl, .inr (SqL.of hp), (ho y0 (by simp)).1.ex (Ex.trans e3 (Ex.trans e4 e5)), by
        rw [if_pos rfl, mem_txt]
        exact q H5 (Ex.trans e4 e5)⟩
      refine q_when (b := outB ways (tx y0)) (et_is (et_or (et_not (et_B isr)) fun _ => et_or hlen fun _ => et_test t0) (by simp)) (fun hb3 H3 e3 => sh true H3 _ rfl (Ex.trans e2 e3) (by rw [show some ([y0, y1].map tx) = some [tx y0, tx y1] from rfl, hcut, hb3]; rfl)) fun hb3 H3 e3 => ?_
      have e13 := Ex.trans e2 e3
      have ha3 := e3 _ _ ha2
      have lfs : (fsOf l).length = l.length := by unfold fsOf; rw [List.length_map]
      have l3 := hok.l3
      rw [hz.1] at ha3
      have hls : EvL (tLc (iList K (tVar 0)) (gName 5) tYes (tOp (rIx K) (tVar 5) (tC (.int 0))) [5]) [some (.ref a), some (.ref c), u2, u3, u4, u5] H3 (l.map fun z => V.str z.2.1) := el_mapL (ev_var rfl) ha3 (by omega) fun z hz7 H7 e7 => ev_op (ev_var rfl) ev_c (rv_ixQ1 (n := 0) ((hz.2 z hz7).same (Ex.trans e13 e7)) rfl)
      have hnl : (l.map fun z => V.str z.2.1) = (namesOf rs rs.length).map V.str := by
        rw [hnm, List.map_map]
        unfold fsOf
        rw [List.map_map]
        rfl
      rw [hnl] at hls
      have t1 : Ev (tOp (rInT K true) (tOp (rIx K) (tVar 1) (tC (.int 1))) (tLc (iList K (tVar 0)) (gName 5) tYes (tOp (rIx K) (tVar 5) (tC (.int 0))) [5])) [some (.ref a), some (.ref c), u2, u3, u4, u5] H3 (.bl (outB (namesOf rs rs.length) (tx y1))) := fun H4 e4 Q' q => ix (Ex.trans e3 e4) (n := 1) rfl H4 (Ex.refl _) _ fun H5 e5 => hls H5 (Ex.trans e4 e5) _ fun p H6 np e6 hp => ⟨p, _, rfl, .inr (SqL.of hp), (ho y1 (by simp)).1.ex (Ex.trans e3 (Ex.trans e4 (Ex.trans e5 e6))), by
        rw [if_pos rfl, mem_txt]
        exact q H6 (Ex.trans e5 e6)⟩
      refine q_when (et_test t1) (fun hb4 H4 e4 => sh true H4 _ rfl (Ex.trans e13 e4) (by rw [show some ([y0, y1].map tx) = some [tx y0, tx y1] from rfl, hcut, hb4]; simp)) fun hb4 H4 e4 => ?_
      have e14 := Ex.trans e13 e4
      have ha4 := e4 _ _ (e3 _ _ ha2)
      have hz4 := hz.same e14
      refine s_retC1 ?_
      refine go_tupsL (K := K) (σ := [some (.ref a), some (.ref c), u2, u3, u4, u5]) (i0 := 0) (j := 5) (xs := xs) rfl ha4 hz4 (by omega) (fun v => rfl) fun D ts H5 nD e5 hD lt ht => ?_
      refine ⟨by show 2 ≤ sizeLine; decide, fun t nt => ?_⟩
      have e6 := Ex.new nt (o := .tup [.str "made", .ref D])
      have e16 := Ex.trans (Ex.trans e14 e5) e6
      refine k t _ (fresh_back (Ex.trans e1 (Ex.trans e14 e5)) nt) (Ex.trans e1 e16) ⟨t, rfl, .inr (.inr ⟨hlo, by rw [show some ([y0, y1].map tx) = some [tx y0, tx y1] from rfl, hcut, hb3, hb4]; rfl, D, _, upd_same, e6 _ _ hD, ?_⟩)⟩
      rw [hfs]
      refine ⟨ts, rfl, by rw [lt, lfs], fun j z u q1 q2 => ?_⟩
      unfold fsOf at q1
      rw [List.getElem?_map] at q1
      cases hj : l[j]? with
      | none => rw [hj] at q1; cases q1
      | some y =>
        rw [hj] at q1
        cases q1
        exact e6 _ _ (ht j y u hj q2)
end
end Lm

namespace Lm
open PySem L2
/-! ### carried over all but the tables -/
theorem StAt.extn {H H' : Hp} {st c : Addr} (S : StAt H st c) (e : LamX.ExtN H H') : StAt H' st c := by
  obtain ⟨⟨n, l, b, h⟩, ⟨ns, h2, h3⟩, ne⟩ := S
  exact ⟨⟨n, l, b, e _ _ h (fun _ z => by cases z)⟩, ⟨ns, e _ _ h2 (fun _ z => by cases z), h3⟩, ne⟩
theorem Tabs_mut {T : List (Addr × Str)} {H : Hp} {l : Addr} {xs : List V} {o : HO} (t : LamX.Tabs T H) (hl : H l = some (.lst xs)) : LamX.Tabs T (upd H l o) := fun p hp => by
  obtain ⟨ps, h1, h2, h3⟩ := t p hp
  refine ⟨ps, by rw [upd_ne (ne_of h1 hl (by intro z; cases z))]; exact h1, h2, fun pos cv hc => ?_⟩
  obtain ⟨c, e1, e2⟩ := h3 pos cv hc
  exact ⟨c, e1, by rw [upd_ne (ne_of e2 hl (by intro z; cases z))]; exact e2⟩
theorem ExtN_mut {H H' : Hp} {l : Addr} {o : HO} (e : LamX.ExtN H H') (nl : ∀ o, H l = some o → ∃ ps, o = .tbl ps) : LamX.ExtN H (upd H' l o) := fun b u h n => by
  rw [upd_ne (fun z => by subst z; obtain ⟨ps, q⟩ := nl u h; exact n ps q)]
  exact e b u h n
theorem Tabs_kp {T : List (Addr × Str)} {H H' : Hp} {st : Addr} {xs : List V} (t : LamX.Tabs T H) (e : Kp st H H') (hs : H st = some (.lst xs)) : LamX.Tabs T H' := fun p hp => by
  obtain ⟨ps, h1, h2, h3⟩ := t p hp
  refine ⟨ps, e _ _ (ne_of h1 hs (by intro z; cases z)) h1, h2, fun pos cv hc => ?_⟩
  obtain ⟨c, e1, e2⟩ := h3 pos cv hc
  exact ⟨c, e1, e _ _ (ne_of e2 hs (by intro z; cases z)) e2⟩
theorem Tabs_st {T : List (Addr × Str)} {H H' : Hp} {st c : Addr} (t : LamX.Tabs T H) (e : Kp st H H') (S : StAt H st c) : LamX.Tabs T H' := let ⟨⟨_, _, _, h⟩, _, _⟩ := S; Tabs_kp t e h
theorem free_of {H H' : Hp} {l : Addr} (e : LamX.ExtN H H') (nl : H' l = none) : ∀ o, H l = some o → ∃ ps, o = .tbl ps := fun o ho => Classical.byContradiction fun hc => by
  have := e l o ho fun ps z => hc ⟨ps, z⟩
  rw [nl] at this
  cases this
/-- all but st and the tables -/
def KpN (st : Addr) (H H' : Hp) : Prop := ∀ b o, b ≠ st → H b = some o → (∀ ps, o ≠ .tbl ps) → H' b = some o
theorem KpN.refl (st : Addr) (H : Hp) : KpN st H H := fun _ _ _ h _ => h
theorem KpN.trans {st : Addr} {H H1 H2 : Hp} (a : KpN st H H1) (b : KpN st H1 H2) : KpN st H H2 := fun c o n h t => b c o n (a c o n h t) t
theorem KpN.of {st : Addr} {H H' : Hp} (e : Kp st H H') : KpN st H H' := fun b o n h _ => e b o n h
theorem KpN.ofN {st : Addr} {H H' : Hp} (e : LamX.ExtN H H') : KpN st H H' := fun b o _ h n => e b o h n
theorem KpN.lst {st l : Addr} {H H' : Hp} {xs : List V} (e : KpN st H H') (n : l ≠ st) (h : H l = some (.lst xs)) : H' l = some (.lst xs) := e _ _ n h fun _ z => by cases z
end Lm

namespace Lm
open PySem L2 Evl RZ LamX
/-! ### what several calls, each tried, tell: a list that grows -/
/-- free in H, or a table -/
def Fr (H : Hp) (a : Addr) : Prop := ∀ o, H a = some o → ∃ ps, o = .tbl ps
theorem Fr.back {H H' : Hp} {a : Addr} (e : ExtN H H') (h : Fr H' a) : Fr H a := fun o ho => Classical.byContradiction fun hc => hc (h o (e _ _ ho fun ps z => hc ⟨ps, z⟩))
theorem Fr.of {H : Hp} {a : Addr} (h : H a = none) : Fr H a := fun o ho => by rw [h] at ho; cases ho
theorem Fr.ne {H : Hp} {a b : Addr} {xs : List V} (h : Fr H a) (hb : H b = some (.lst xs)) : a ≠ b := fun z => by
  subst z
  obtain ⟨ps, q⟩ := h _ hb
  cases q
/-- a tried call tells a thing of the shape s -/
def TrS (Tl : List (Addr × Str)) (te : TE) (σ : L2.St) (H : Hp) (d : Nat) (s : Sh) : Prop := ∀ H1, ExtN H H1 → Tabs Tl H1 → ∀ Q : VK, (∀ v H2, ExtN H1 H2 → Tabs Tl H2 → RepB H2 (Fr H1) d v s → Q v H2) → te σ H1 Q
theorem TrS.extn {Tl : List (Addr × Str)} {te : TE} {σ : L2.St} {H H' : Hp} {d : Nat} {s : Sh} (e : ExtN H H') (h : TrS Tl te σ H d s) : TrS Tl te σ H' d s := fun H1 e1 T1 Q q => h H1 (e.trans e1) T1 Q q
section
variable {Cl : VK → XK} {post : V → Hp → VK → Prop} {Tl : List (Addr × Str)} {C : Addr} {fn tag : Str} {x : V} {σ : L2.St} {H : Hp} {t : XK → TE} {d : Nat}
theorem tr_err (hC : ∀ Q cls d H, ClF C fn tag Q cls d H → Cl Q cls d H) (hx : flt x)
    (h : ∀ H1, ExtN H H1 → ∀ (E : XK) (R : VK), (∀ H' d, Ex H1 H' → H' d = none → E (.ref C) (some d) (upd H' d (.xd [(fn, x)]))) → t E σ H1 R) : TrS Tl (tLam Tl (TTtr Cl post) t) σ H (d + 2) (.t [.v (.str tag), .v x]) := fun H1 e1 T1 Q q =>
  go_trA (x := x) T1 hC (fun H2 e2 E R hE => h H2 (e1.trans e2) E R hE) fun p H2 e2 T2 np hp => q (.ref p) H2 e2 T2 (rep_flatT (xs := [.str tag, x]) np hp (by show 2 ≤ 40000; decide) fun y hy => by
    simp only [List.mem_cons, List.not_mem_nil, or_false] at hy
    rcases hy with rfl | rfl
    · exact .inr (.inr (.inl ⟨_, rfl⟩))
    · exact hx)
theorem tr_oth (hC : ∀ Q cls d H, ClO C tag Q cls d H → Cl Q cls d H) (h : ∀ H1, ExtN H H1 → ∀ (E : XK) (R : VK), (∀ H', Ex H1 H' → E (.ref C) none H') → t E σ H1 R) : TrS Tl (tLam Tl (TTtr Cl post) t) σ H (d + 2) (.t [.v (.str tag)]) := fun H1 e1 T1 Q q =>
  go_trO T1 hC (fun H2 e2 E R hE => h H2 (e1.trans e2) E R hE) fun p H2 e2 T2 np hp => q (.ref p) H2 e2 T2 (rep_flatT (xs := [.str tag]) np hp (by show 1 ≤ 40000; decide) fun y hy => by
    rw [List.mem_singleton.mp hy]
    exact .inr (.inr (.inl ⟨_, rfl⟩)))
theorem tr_told (hx : flt x) (h : ∀ H1, ExtN H H1 → Tabs Tl H1 → ∀ (E : XK) (R : VK), (∀ H', Ex H1 H' → R x H') → t E σ H1 R) : TrS Tl (tLam Tl (TTtr Cl (pTold tag)) t) σ H (d + 2) (.t [.v (.str tag), .v x]) := fun H1 e1 T1 Q q => by
  refine ⟨T1, fun H2 e2 T2 p0 np0 E R _ hR => ?_⟩
  have s0 : Ex H2 (upd H2 p0 (.tup [.str "odd"])) := Ex.new np0
  refine h _ ((e1.trans e2).trans (.of s0)) (T2.ext s0) E R fun H' s => hR _ _ fun p np => ?_
  have s1 : Ex H2 (upd H' p (.tup [.str tag, x])) := Ex.trans s0 (Ex.trans s (Ex.new np))
  refine q (.ref p) _ (e2.trans (.of s1)) (T2.ext s1) (rep_flatT (xs := [.str tag, x]) (Fr.back e2 (Fr.of (fresh_back (Ex.trans s0 s) np))) upd_same (by show 2 ≤ 40000; decide) fun y hy => ?_)
  simp only [List.mem_cons, List.not_mem_nil, or_false] at hy
  rcases hy with rfl | rfl
  · exact .inr (.inr (.inl ⟨_, rfl⟩))
  · exact hx
end
/-- the list at l of what was found -/
structure Fnd (Tl : List (Addr × Str)) (H0 : Hp) (l : Addr) (d : Nat) (ss : List Sh) (H : Hp) : Prop where
  ex : ExtN H0 H
  nl : Fr H0 l
  tb : Tabs Tl H
  ls : ∃ xs, H l = some (.lst xs) ∧ RepA H (fun a => a ≠ l) d xs ss
section
variable {K : PySem.W.Frag} {Tl : List (Addr × Str)} {te : TE} {tz : TS} {D : Ends} {σ : L2.St} {H0 H : Hp} {l : Addr} {d i : Nat} {s : Sh} {ss : List Sh}
theorem Fnd.rep (F : Fnd Tl H0 l d ss H) (hl : ss.length ≤ 40000) : Rep H (d + 1) (.ref l) (.l ss) := by
  obtain ⟨xs, h1, h2, h3⟩ := F.ls
  exact ⟨l, xs, rfl, trivial, h1, h2, by omega, fun i y s' q1 q2 => (h3 i y s' q1 q2).rep⟩
theorem Tabs_mutL {T : List (Addr × Str)} {H : Hp} {l : Addr} {xs : List V} {o : HO} (t : LamX.Tabs T H) (hl : H l = some (.lst xs)) : LamX.Tabs T (upd H l o) := fun p hp => by
  obtain ⟨ps, h1, h2, h3⟩ := t p hp
  refine ⟨ps, by rw [upd_ne (ne_of h1 hl (by intro z; cases z))]; exact h1, h2, fun pos cv hc => ?_⟩
  obtain ⟨c, e1, e2⟩ := h3 pos cv hc
  exact ⟨c, e1, by rw [upd_ne (ne_of e2 hl (by intro z; cases z))]; exact e2⟩
theorem ExtN_mutL {H H' : Hp} {l : Addr} {o : HO} (e : LamX.ExtN H H') (nl : Fr H l) : LamX.ExtN H (upd H' l o) := fun b u h n => by
  rw [upd_ne (fun z => by subst z; obtain ⟨ps, q⟩ := nl u h; exact n ps q)]
  exact e b u h n
theorem RepA_snoc {H : Hp} {B : Addr → Prop} {d : Nat} {vs : List V} {ss : List Sh} {v : V} {s : Sh} (h : RepA H B d vs ss) (hv : RepB H B d v s) : RepA H B d (vs ++ [v]) (ss ++ [s]) := ⟨by simp [h.1], fun i y s' q1 q2 => by
  rcases Nat.lt_or_ge i vs.length with hi | hi
  · rw [List.getElem?_append_left hi] at q1
    rw [List.getElem?_append_left (by rw [← h.1]; exact hi)] at q2
    exact h.2 i y s' q1 q2
  · rw [List.getElem?_append_right hi] at q1
    rw [List.getElem?_append_right (by rw [← h.1]; exact hi), ← h.1] at q2
    cases q : i - vs.length with
    | zero =>
      rw [q] at q1 q2
      cases q1
      cases q2
      exact hv
    | succ n => rw [q] at q1; simp at q1⟩
theorem go_fst (T : Tabs Tl H) (h : TrS Tl te σ H d s) (k : ∀ l H1, Fnd Tl H l d [s] H1 → tz D (σ.set i (some (.ref l))) H1) : tSeq (tAsg (tLst (tCons te tNil)) (gName i)) tz D σ H :=
  h H (ExtN.refl _) T _ fun v H1 e1 T1 r1 => ⟨by show 1 ≤ sizeLine; decide, fun l nl => k l _ ⟨e1.trans (.of (Ex.new nl)), Fr.back e1 (Fr.of nl), T1.ext (Ex.new nl), [v], upd_same, RepA.cons (r1.mono fun a o hb ho _ => ⟨ne_of_none ho nl, by rw [upd_ne (ne_of_none ho nl)]; exact ho⟩) ⟨rfl, fun i y s' z => by simp at z⟩⟩⟩
theorem go_nxt (F : Fnd Tl H0 l d ss H) (hi : σ[i]? = some (some (.ref l))) (hn : ss.length ≤ 900) (h : TrS Tl te σ H d s) (k : ∀ H1, Fnd Tl H0 l d (ss ++ [s]) H1 → tz D σ H1) : tSeq (tDrop (tBM K "list" rAppend (tVar i) (tCons te tNil))) tz D σ H := by
  obtain ⟨xs, h1, h2⟩ := F.ls
  refine ⟨_, hi, .inl ⟨rfl, _, SqL.of h1⟩, ?_⟩
  refine h H (ExtN.refl _) F.tb _ fun v H1 e1 T1 r1 => ?_
  have hl1 := e1 _ _ h1 (fun _ z => by cases z)
  refine ⟨l, _, _, rfl, rfl, hl1, sz_lt (by rw [h2.1]; omega), k _ ⟨ExtN_mutL (F.ex.trans e1) F.nl, F.nl, Tabs_mutL T1 hl1, _, upd_same, RepA_snoc ⟨h2.1, fun i y s' q1 q2 => (h2.2 i y s' q1 q2).mono fun a o hb ho hn => ⟨hb, by rw [upd_ne hb]; exact e1 _ _ ho hn⟩⟩ (r1.mono fun a o hb ho _ => ?_)⟩⟩
  have hal : a ≠ l := hb.ne h1
  exact ⟨hal, by rw [upd_ne hal]; exact ho⟩
end
/-! ### lists told one behind another -/
theorem RepA_app {H : Hp} {B : Addr → Prop} {d : Nat} {vs us : List V} {ss ts : List Sh} (h : RepA H B d vs ss) (h2 : RepA H B d us ts) : RepA H B d (vs ++ us) (ss ++ ts) := ⟨by simp [h.1, h2.1], fun i y s' q1 q2 => by
  rcases Nat.lt_or_ge i vs.length with hi | hi
  · rw [List.getElem?_append_left hi] at q1
    rw [List.getElem?_append_left (by rw [← h.1]; exact hi)] at q2
    exact h.2 i y s' q1 q2
  · rw [List.getElem?_append_right hi] at q1
    rw [List.getElem?_append_right (by rw [← h.1]; exact hi), ← h.1] at q2
    exact h2.2 _ y s' q1 q2⟩
theorem RepA_nil {H : Hp} {B : Addr → Prop} {d : Nat} : RepA H B d [] [] := ⟨rfl, fun i y s' z => by simp at z⟩
theorem RepA_rep {H : Hp} {B : Addr → Prop} {d : Nat} {vs : List V} {ss : List Sh} (h : RepA H B d vs ss) : ∀ n, RepA H B d (List.replicate n vs).flatten (List.replicate n ss).flatten
  | 0 => RepA_nil
  | n + 1 => by
    rw [List.replicate_succ, List.replicate_succ, List.flatten_cons, List.flatten_cons]
    exact RepA_app h (RepA_rep h n)
theorem flat_len {α : Type} (l : List α) : ∀ n, (List.replicate n l).flatten.length = n * l.length
  | 0 => by simp
  | n + 1 => by rw [List.replicate_succ, List.flatten_cons, List.length_append, flat_len l n, Nat.succ_mul, Nat.add_comm]
theorem rep_l {H : Hp} {B : Addr → Prop} {d : Nat} {v : V} {ss : List Sh} (h : RepB H B (d + 1) v (.l ss)) : ∃ a xs, v = .ref a ∧ B a ∧ H a = some (.lst xs) ∧ RepA H B d xs ss := by
  obtain ⟨a, xs, h1, h2, h3, h4, h5, h6⟩ := h
  exact ⟨a, xs, h1, h2, h3, h4, h6⟩
section
variable {σ : L2.St} {H : Hp} {ta tb : TE} {d n : Nat} {ss ts : List Sh}
theorem es_cat (h1 : EvS ta σ H (d + 1) (.l ss)) (h2 : EvS tb σ H (d + 1) (.l ts)) (hl : ss.length + ts.length ≤ 40000) : EvS (tOp rCat ta tb) σ H (d + 1) (.l (ss ++ ts)) := fun H1 e Q q => h1 H1 e _ fun v H2 e2 r2 => h2 H2 (Ex.trans e e2) _ fun u H3 e3 r3 => by
  obtain ⟨a, xs, rfl, ba, ha, ra⟩ := rep_l r2
  obtain ⟨b, ys, rfl, bb, hb, rb⟩ := rep_l r3
  refine ⟨a, b, xs, ys, rfl, rfl, e3 _ _ ha, hb, sz_of (by rw [ra.1, rb.1]; omega), fun p np => q (.ref p) _ (Ex.trans e2 (Ex.trans e3 (Ex.new np))) ?_⟩
  refine ⟨p, xs ++ ys, rfl, .inr (fresh_back (Ex.trans e2 e3) np), upd_same, by rw [List.length_append, List.length_append, ra.1, rb.1], by rw [List.length_append, ra.1, rb.1]; exact hl, (RepA_app ((ra.ex e3).ex (Ex.new np)) ((rb.imp fun a b => b.back e2).ex (Ex.new np))).2⟩
theorem es_rep (h1 : EvS ta σ H (d + 1) (.l ss)) (h2 : Ev tb σ H (.int (n : Int))) (hl : ss.length * n ≤ 40000) (hn : n ≤ 40000) : EvS (tOp rRep ta tb) σ H (d + 1) (.l (List.replicate n ss).flatten) := fun H1 e Q q => h1 H1 e _ fun v H2 e2 r2 => h2 H2 (Ex.trans e e2) _ fun H3 e3 => by
  obtain ⟨a, xs, rfl, ba, ha, ra⟩ := rep_l r2
  refine ⟨a, (n : Int), xs, rfl, rfl, e3 _ _ ha, by omega, by omega, sz_of (by rw [ra.1, Int.toNat_natCast]; omega), fun p np => q (.ref p) _ (Ex.trans e2 (Ex.trans e3 (Ex.new np))) ?_⟩
  have r := RepA_rep ((ra.ex e3).ex (Ex.new np (o := .lst (List.replicate ((n : Int)).toNat xs).flatten))) n
  refine ⟨p, (List.replicate ((n : Int)).toNat xs).flatten, rfl, .inr (fresh_back (Ex.trans e2 e3) np), upd_same, ?_, ?_, ?_⟩
  · rw [Int.toNat_natCast]; exact r.1
  · rw [Int.toNat_natCast, r.1, flat_len, Nat.mul_comm]; exact hl
  · rw [Int.toNat_natCast]
    rw [Int.toNat_natCast] at r
    exact r.2
end
theorem ev_intI {σ : L2.St} {H : Hp} {te : TE} {i : Int} (h : Ev te σ H (.int i)) : Ev (tCB (fun xs H Q => (∃ i, xs = [V.int i] ∧ Q (V.int i) H) ∨ ∃ k, xs = [V.bl k] ∧ Q (V.int (if k = true then 1 else 0)) H) (tCons te tNil)) σ H (.int i) := fun H1 e Q q => h H1 e _ fun H2 e2 => .inl ⟨i, rfl, q H2 e2⟩
end Lm

namespace Lm
open PySem L2 Evl RZ LamX
/-! ### tried: the fields of the rule that is made, or the error's fields -/
def ClF2 (C : Addr) (f1 f2 tag : Str) (Q : VK) : XK := fun cls d H => ∃ v1 v2, cls = .ref C ∧ ∃ dd fs, d = some dd ∧ H dd = some (.xd fs) ∧ fs.lookup f1 = some v1 ∧ fs.lookup f2 = some v2 ∧ ∀ p, H p = none → Q (.ref p) (upd H p (.tup [.str tag, v1, v2]))
def pMade (CR : Addr) : V → Hp → VK → Prop := fun v H Q => ∃ a fs wy i, v = .ref a ∧ RlAt CR H a fs wy i ∧ ∀ p xs u H', Ex H H' → H' p = some (.lst xs) → RowsT H' xs fs → H' u = some (.tup [.str "made", .ref p]) → Q (.ref u) H'
abbrev Cl22 (CU : Addr) : VK → XK := ClF2 CU "index" "reason" "rule"
theorem rl_nofs (t : Addr) (wy : Str) (i : Nat) : (rlF t wy i).lookup ("fields" : Str) = none := rl_no t wy i (by decide +kernel) (by decide +kernel) (by decide +kernel)
abbrev s_tried : Stmt := top 31
theorem sc_tried : FnScope ["_law_ask", "_law_found", "e"] ["_law_ask"] (defScope s_tried) := ⟨rfl, rfl, rfl, by decide +kernel, rfl, by decide +kernel, by decide +kernel⟩
theorem tried_gives {X : Cx} {CU CR fB g mF : Addr} {dF : FuncData} {cdg : Value} {q : Str} {k : Nat} (hk : 1 ≤ k) (TB : ErrF2 X.K X.mg "BadRule" CU fB "index" "reason") (MF : MetOk X.prog X.w X.K X.mg X.base 1 CR "fields" mF dF ["self"] (spRlFields CR)) :
    GivesToS X ["_law_ask", "_law_found", "e"] "_law_tried" (defScope s_tried) g cdg (defBody s_tried) "_law_ask" q k (TTtr (Cl22 CU) (pMade CR)) := by
  intro f c' s H Q tl hr act hc h
  refine ⟨_, pss_cons (ps_set (i := 1) sc_tried.nd rfl (by first | exact Or.inl rfl | exact Or.inr rfl) (pe_tup (pa_cons pe_str pa_nil))) (pss_cons (ps_clauses (X := (cxOf C8.CX0 X.prog X.w X.K X.mg X.base ["_law_ask", "_law_found", "e"] "_law_tried" (defScope s_tried) g cdg X.A X.stack s H C8.E0).nox)
      (cl := [(.ref CU, some 2, fun a cls d => tAsg (tTup (tCons (tC (.str "rule")) (tCons (tXf a cls d CU "index" (tVar 2)) (tCons (tXf a cls d CU "reason" (tVar 2)) tNil)))) (gName 1))])
      (tb := fun W => tAsg (tTup (tCons (tC (.str "made")) (tCons (tMeth CR "fields" (spRlFields CR) [] E0 (fun σ H Q => σ[0]? = some (some (.ref f)) ∧ H c' = some (LamX.CodeO c' q) ∧ tl (WE W σ) H Q) tNil) tNil))) (gName 1)) (Wo := fun _ _ _ _ => False)
      rfl rfl sc_tried.nd LamX.takes0 (fun W pn xe tk _ => pss_one (ps_set (i := 1) sc_tried.nd rfl (by first | exact Or.inl rfl | exact Or.inr rfl) (pe_tup (pa_cons pe_str (pa_cons (by
        exact (pe_m0 (X := (cxOf C8.CX0 X.prog X.w X.K X.mg X.base ["_law_ask", "_law_found", "e"] "_law_tried" (defScope s_tried) g cdg X.A X.stack s H C8.E0).nox.tr pn xe) MF (hr.mono (by omega)) (by exact (act W pn xe _ _ tk)))) pa_nil)))))
      (.cons ⟨rfl, by decide, .inl TB.g⟩ ⟨rfl, rfl⟩ (fun a oe cls d pn hz hf => pss_one (ps_set (i := 1) sc_tried.nd rfl (by first | exact Or.inl rfl | exact Or.inr rfl) (pe_tup (pa_cons pe_str (pa_cons (pe_xf TB.X TB.n1 hz hf (pv 2)) (pa_cons (pe_xf TB.X TB.n2 hz hf (pv 2)) pa_nil))))))
      .nil)) (pss_one (ps_ret (pv 1)))), ?_⟩
  refine ⟨by show 1 ≤ sizeLine; decide, fun p0 np0 => ⟨rfl, by rw [upd_ne (ne_of_none hc np0)]; exact hc, ?_⟩⟩
  refine h p0 np0 _ _ (fun cls d H' hcl => ?_) (fun v H' hp => ?_)
  · obtain ⟨v1, v2, rfl, dd, fs, rfl, hd, hl1, hl2, hq⟩ := hcl
    exact ⟨true, TB.exm, fun _ a na => ⟨_, rfl, rfl, rfl, dd, fs, v1, rfl, hd, hl1, _, rfl, rfl, rfl, dd, fs, v2, rfl, hd, hl2, by show 3 ≤ sizeLine; decide, fun p np => ⟨_, rfl, hq p np⟩⟩, (fun z => nomatch z)⟩
  · obtain ⟨a, fs, wy, i, rfl, ha, hq⟩ := hp
    obtain ⟨dx, t, ts, h3, _⟩ := id ha.ob
    exact ⟨a, dx, _, rfl, h3, rl_nofs _ _ _, a, fs, wy, i, rfl, ha, fun p xs H1 np e1 hp hR => ⟨by show 2 ≤ sizeLine; decide, fun u nu => ⟨_, rfl, hq p xs u _ (Ex.trans e1 (Ex.new nu)) (Ex.new nu _ _ hp) (hR.same (Ex.new nu)) upd_same⟩⟩⟩
/-- _law_tried(lambda: e) -/
theorem pe_tried {X : Cx} {CU CR fB g c P mF : Addr} {fdg dF : FuncData} {k : Nat} {t : XK → TE} {params : Arguments} {body : Expr} {scope : Scope} {p lpos pos : Pos} (Fg : L2.Fun X.K "_law_tried" "_law_tried" s_tried g fdg) (hb : L2.Binds X.K fdg ["_law_ask"] []) (hm : X.mg "_law_tried" = some (.ref g))
    (TB' : ErrF2 X.K X.mg "BadRule" CU fB "index" "reason") (MF : MetOk X.prog X.w X.K X.mg X.base 1 CR "fields" mF dF ["self"] (spRlFields CR))
    (TB : LamX.TabB X.base X.mg c P) (hcode : X.env.code = .ref c) {Tl : List (Addr × Str)} (hmT : (P, X.env.qual ++ "<lambda>") ∈ Tl) (hu : ∀ p ∈ Tl, p.1 = P → p.2 = X.env.qual ++ "<lambda>") (hk : 1 ≤ k) (hr : Room (k + 2) X.A)
    (hbody : ∀ (A : Around) (outer : List Env) (s : Shared) (H : Hp) (E : XK) (f c' : Addr), Room k (A.deeper (LamX.lamEnv X scope s.heap.objs.size f c')) → PE (LamX.lamCx X A outer s H E scope f c') body (t E))
    (L : LamX.LamS X.env.scope scope) (hg : Gl X "_law_tried" := by rfl) (hdef : defaultsOf params X.env = ([], []) := by rfl)
    (hbind : ∀ (q : Str) (cl : List (Str × Addr)) (pm cv ctv : Value), bindArgs (PySem.W.kla_fn "<lambda>" q params body scope cl pm cv ctv) ⟨[], []⟩ = pure [] := by intros; rfl) :
    PE X (.Call (.Name "_law_tried" p) [.Lambda params body scope lpos] [] pos) (LamX.tLam Tl (TTtr (Cl22 CU) (pMade CR)) t) := by
  obtain ⟨oc, od, kV, doc, pm, an, cdv, ct, osl, rfl, lk, hcd⟩ := Fg.ex
  exact pe_lamcallS (c := c) (P := P) hg hm Fg.kp lk hcd hb sc_tried rfl (.inl rfl) (tried_gives hk TB' MF) TB hcode hmT hu hr L hdef hbind hbody
theorem lk_ir (a b : V) : ([(("reason" : Str), a), ("index", b)] : List (Str × V)).lookup ("index" : Str) = some b := by
  have : (("index" : Str) == "reason") = false := by decide +kernel
  simp [List.lookup, this]
/-! ### what is told is what is due -/
theorem whyP_str (rs : List Vw) (n : Nat) : whyP rs n = .non ∨ ∃ s, whyP rs n = .str s := by
  unfold whyP
  split
  · exact .inr ⟨_, rfl⟩
  · generalize rs.getD n none = r
    cases r with
    | none => exact .inr ⟨_, rfl⟩
    | some ws =>
      show (if ws.length = 7 then (if nmB _ (ws.getD 0 none) then V.str "name" else wrongW ws) else V.str "field") = .non ∨ _
      split
      · split
        · exact .inr ⟨_, by unfold wrongR; rename_i h1 h2; simp only [h1, h2]; rfl⟩
        · rename_i h1 h2
          unfold wrongW
          rcases find_first (p := cb ws) (n := 6) with ⟨q1, _⟩ | ⟨j, q1, _⟩
          · rw [q1]; exact .inl rfl
          · rw [q1]
            refine .inr ⟨colN.getD j "", ?_⟩
            unfold wrongR wrongW
            simp only [h1, h2, q1]
            rfl
      · rename_i h1
        exact .inr ⟨_, by unfold wrongR; simp only [h1]; rfl⟩
theorem OutAt.extn {H H' : Hp} {v : V} {rs : List Vw} {sr : Vw} (e : ExtN H H') (h : OutAt H v rs sr) : OutAt H' v rs sr := by
  obtain ⟨p, rfl, h⟩ := h
  refine ⟨p, rfl, ?_⟩
  have nt : ∀ {a : Addr} {xs : List V}, H a = some (.tup xs) → H' a = some (.tup xs) := fun h => e _ _ h fun _ z => by cases z
  rcases h with ⟨n, h1, h2, h3, h4⟩ | ⟨h1, h2, h3⟩ | ⟨h1, h2, q, xs, h3, h4, ts, h5, h6, h7⟩
  · exact .inl ⟨n, h1, h2, h3, nt h4⟩
  · exact .inr (.inl ⟨h1, h2, nt h3⟩)
  · exact .inr (.inr ⟨h1, h2, q, xs, nt h3, e _ _ h4 (fun _ z => by cases z), ts, h5, h6, fun j z u q1 q2 => nt (h7 j z u q1 q2)⟩)
theorem OutAt.same {H : Hp} {d : Nat} {u v : V} {rs : List Vw} {sr : Vw} (hu : OutAt H u rs sr) (hv : OutAt H v rs sr) (hb : ∀ z ∈ fsR rs, z.2.length ≤ 900) (hl : rs.length ≤ 900) : SameV H (d + 4) u v := by
  obtain ⟨p, rfl, hp⟩ := hu
  obtain ⟨q, rfl, hq⟩ := hv
  have three : ∀ {a : V} {x y : V}, (∃ i : Int, x = .int i) ∨ x = .non → (∃ s, y = .str s) → H p = some (.tup [.str "rule", x, y]) → H q = some (.tup [.str "rule", x, y]) → SameV H (d + 4) (.ref p) (.ref q) := fun {a x y} hx hy h1 h2 => .tup h1 h2 rfl (by show 3 ≤ 40000; decide) fun i u v q1 q2 => by
    rw [q1] at q2
    cases (Option.some.inj q2)
    have := List.mem_of_getElem? q1
    simp only [List.mem_cons, List.not_mem_nil, or_false] at this
    rcases this with rfl | rfl | rfl
    · exact .str _
    · rcases hx with ⟨i, rfl⟩ | rfl
      · exact .int _
      · exact .non
    · obtain ⟨s, rfl⟩ := hy
      exact .str _
  rcases hp with ⟨n, h1, h2, h3, h4⟩ | ⟨h1, h2, h3⟩ | ⟨h1, h2, a, xs, h3, h4, hR⟩
  · rcases hq with ⟨m, g1, g2, g3, g4⟩ | ⟨g1, _⟩ | ⟨g1, _⟩
    · have : n = m := by
        rcases Nat.lt_trichotomy n m with h | h | h
        · exact absurd (g3 n h) h2
        · exact h
        · exact absurd (h3 m h) g2
      subst this
      exact three (a := .non) (.inl ⟨_, rfl⟩) ((whyP_str rs n).resolve_left h2) h4 g4
    · exact absurd (g1 n h1) h2
    · exact absurd (g1 n h1) h2
  · rcases hq with ⟨m, g1, g2, g3, g4⟩ | ⟨g1, g2, g3⟩ | ⟨g1, g2, _⟩
    · exact absurd (h1 m g1) g2
    · exact three (a := .non) (.inr rfl) ⟨_, rfl⟩ h3 g3
    · rw [h2] at g2; cases g2
  · rcases hq with ⟨m, g1, g2, g3, g4⟩ | ⟨g1, g2, _⟩ | ⟨g1, g2, b, ys, g3, g4, gR⟩
    · exact absurd (h1 m g1) g2
    · rw [h2] at g2; cases g2
    · refine .tup h3 g3 rfl (by show 2 ≤ 40000; decide) fun i u v q1 q2 => ?_
      match i, q1, q2 with
      | 0, q1, q2 => cases q1; cases q2; exact .str _
      | 1, q1, q2 =>
        cases q1; cases q2
        have lf : (fsR rs).length = rs.length := by unfold fsR; rw [List.length_map]
        have lx : xs.length = rs.length := by obtain ⟨ts, r1, r2, _⟩ := hR; rw [r1, List.length_map, r2, lf]
        have ly : ys.length = rs.length := by obtain ⟨ts, r1, r2, _⟩ := gR; rw [r1, List.length_map, r2, lf]
        refine .lst h4 g4 (by rw [lx, ly]) (by omega) fun j u v z1 z2 => ?_
        have hj := (List.getElem?_eq_some_iff.mp z1).1
        have hz : (fsR rs)[j]? = some ((fsR rs)[j]'(by omega)) := List.getElem?_eq_getElem _
        obtain ⟨u1, hu1, hu2⟩ := hR.get hz
        obtain ⟨v1, hv1, hv2⟩ := gR.get hz
        rw [z1] at hu1
        rw [z2] at hv1
        cases hu1; cases hv1
        refine .tup hu2 hv2 rfl (by have := hb _ (List.mem_of_getElem? hz); simp; omega) fun m u v w1 w2 => ?_
        rw [w1] at w2
        cases (Option.some.inj w2)
        obtain ⟨s, hs, rfl⟩ := List.mem_map.mp (List.mem_of_getElem? w1)
        exact .str _
      | i + 2, q1, _ => simp at q1
/-! ### the tries -/
def spRlE (K : PySem.W.Frag) (CR CU : Addr) : Sp := fun vs H Q E => spRlInit CR vs H Q E ∨ spRlInitX K CU vs H Q E
theorem FsAt.ex {K : PySem.W.Frag} {H H' : Hp} {v : V} {o : Option (List Vw)} (e : Ex H H') (h : FsAt K H v o) : FsAt K H' v o := h.imp (fun ⟨a, xs, rs, e1, h1, h2, h3⟩ => ⟨a, xs, rs, e1, h1.same e, h2.ex e, h3⟩) fun ⟨h1, h2⟩ => ⟨h1.ex e, h2⟩
section
variable {Tl : List (Addr × Str)} {CR CU : Addr} {σ : L2.St} {H : Hp} {K : PySem.W.Frag} {ta tb te : TE}
def EvFs (K : PySem.W.Frag) (te : TE) (σ : L2.St) (H : Hp) (o : Option (List Vw)) : Prop := ∀ H1, ExtN H H1 → ∀ Q : VK, (∀ v H2, Ex H1 H2 → FsAt K H2 v o → Q v H2) → te σ H1 Q
def EvFv (K : PySem.W.Frag) (te : TE) (σ : L2.St) (H : Hp) (r : Vw) : Prop := ∀ H1, ExtN H H1 → ∀ Q : VK, (∀ v H2, Ex H1 H2 → FvAt K H2 v r → Q v H2) → te σ H1 Q
def TrO (Tl : List (Addr × Str)) (te : TE) (σ : L2.St) (H : Hp) (rs : List Vw) (sr : Vw) : Prop := ∀ H1, ExtN H H1 → Tabs Tl H1 → ∀ Q : VK, (∀ v H2, ExtN H1 H2 → Tabs Tl H2 → OutAt H2 v rs sr → Q v H2) → te σ H1 Q
def TrB (Tl : List (Addr × Str)) (te : TE) (σ : L2.St) (H : Hp) : Prop := ∀ H1, ExtN H H1 → Tabs Tl H1 → ∀ Q : VK, (∀ p H2, ExtN H1 H2 → Tabs Tl H2 → H2 p = some (.tup [.str "rule", .int 0, .str "field"]) → Q (.ref p) H2) → te σ H1 Q
theorem try_rule {rs : List Vw} {sr : Vw} (l0 : 0 < rs.length) (ha : EvFs K ta σ H (some rs)) (hb : EvFv K tb σ H sr) : TrO Tl (tLam Tl (TTtr (Cl22 CU) (pMade CR)) fun E => tMake CR (spRlE K CR CU) [] E (tCons ta (tCons tb tNil))) σ H rs sr := by
  refine fun H1 e1 T1 Q q => ⟨T1, fun H2 e2 T2 p0 np0 E R hE hR => ?_⟩
  have s0 : Ex H2 (upd H2 p0 (.tup [.str "odd"])) := Ex.new np0
  refine ha _ ((e1.trans e2).trans (.of s0)) _ fun v H3 e3 hv => hb _ (((e1.trans e2).trans (.of s0)).trans (.of e3)) _ fun b H4 e4 hb => ?_
  have e24 : Ex H2 H4 := Ex.trans s0 (Ex.trans e3 e4)
  have T4 := T2.ext e24
  have hv4 := hv.ex e4
  intro x dx nx ndx nex
  have xE : Ex H4 (upd (upd H4 dx (.own x)) x (.ins CR dx [])) := Ex.trans (Ex.new ndx) (Ex.new (by rw [upd_ne (Ne.symm nex)]; exact nx))
  -- an error is told
  have err : ∀ (i r : V), (∀ p H', Ex H2 H' → H' p = some (.tup [.str "rule", i, r]) → OutAt H' (.ref p) rs sr) → Rs2 CU r i (upd (upd H4 dx (.own x)) x (.ins CR dx [])) E := fun i r ho H' d e nd => hE _ _ _ ⟨i, r, rfl, d, _, rfl, upd_same, lk_ir _ _, rfl, fun p np => by
    have e5 : Ex H2 (upd (upd H' d (.xd [("reason", r), ("index", i)])) p (.tup [.str "rule", i, r])) := Ex.trans e24 (Ex.trans xE (Ex.trans e (Ex.trans (Ex.new nd) (Ex.new np))))
    exact q _ _ (e2.trans (.of e5)) (T2.ext e5) (ho p _ e5 upd_same)⟩
  by_cases hw : ∀ i, i < rs.length → whyP rs i = .non
  · cases hs : shownR (namesOf rs rs.length) sr with
    | false => exact .inr ⟨x, v, b, some rs, rfl, hv4.ex xE, .inr (.inr ⟨rs, sr, rfl, l0, hw, hb.ex xE, hs, err _ _ fun p H' _ hp => ⟨p, rfl, .inr (.inl ⟨hw, hs, hp⟩)⟩⟩)⟩
    | true =>
      rcases hv4 with ⟨a, xs, rs', rfl, ha', hRv, he⟩ | ⟨_, he⟩
      rotate_left
      · cases he
      cases he
      obtain ⟨l, hz, hok, hrs⟩ := rows_good hRv l0 hw
      have hnm : namesOf rs rs.length = (fsOf l).map fun z => z.1 := by
        unfold namesOf
        rw [List.take_length]
        conv => lhs; rw [hrs]
        rw [List.map_map]
        rfl
      have hfs : fsR rs = fsOf l := by
        conv => lhs; rw [hrs]
        exact fsR_of _
      have hs' := hs
      unfold shownR at hs'
      rw [Bool.and_eq_true] at hs'
      obtain ⟨hp, hn⟩ := hs'
      rcases hb with ⟨c, ys, rfl, hy, _, rfl⟩ | ⟨_, rfl⟩
      rotate_left
      · cases hp
      obtain ⟨wy, nm, rfl, hwy, hnm2⟩ : ∃ wy nm, ys = [V.str wy, V.str nm] ∧ wy ∈ ways ∧ nm ∈ namesOf rs rs.length := by
        match ys, hp, hn with
        | [y0, y1], hp, hn =>
          have hp : (!outB ways (tx y0) && (match tx y1 with | some s => isW s | none => false)) = true := hp
          rw [Bool.and_eq_true] at hp
          have hn : (match (some [tx y0, tx y1] : Vw) with | some [_, some s] => decide (s ∈ namesOf rs rs.length) | _ => false) = true := hn
          cases y0 with
          | str wy =>
            cases y1 with
            | str nm => exact ⟨wy, nm, rfl, by simpa [outB, tx] using hp.1, of_decide_eq_true hn⟩
            | _ => cases hn
          | _ => cases hp.1
      rw [hnm] at hnm2
      obtain ⟨i, hi⟩ := List.mem_iff_getElem?.mp hnm2
      refine .inl (mkRl (R := fun x H' => R (.ref x) H') ha' hz hok hy hwy hi (fun x H5 nx e5 hx => ?_) x dx nx ndx nex)
      refine hR _ _ ⟨x, _, wy, i, rfl, hx, fun p xs' u H6 e6 hp6 hR6 hu => ?_⟩
      have e26 : Ex H2 H6 := Ex.trans e24 (Ex.trans e5 e6)
      exact q _ _ (e2.trans (.of e26)) (T2.ext e26) ⟨u, rfl, .inr (.inr ⟨hw, hs, p, xs', hu, hp6, by rw [hfs]; exact hR6⟩)⟩
  · obtain ⟨n, hn, hbad, hlo⟩ : ∃ n, n < rs.length ∧ whyP rs n ≠ .non ∧ ∀ i, i < n → whyP rs i = .non := by
      rcases find_first (p := fun i => !decide (whyP rs i = .non)) (n := rs.length) with ⟨_, h2⟩ | ⟨j, _, h2, h3, h4⟩
      · exact absurd (fun i hi => by simpa using h2 i hi) hw
      · exact ⟨j, h2, by simpa using h3, fun i hi => by simpa using h4 i hi⟩
    exact .inr ⟨x, v, b, some rs, rfl, hv4.ex xE, .inr (.inl ⟨rs, n, rfl, hn, hbad, hlo, err _ _ fun p H' _ hp => ⟨p, rfl, .inl ⟨n, hn, hbad, hlo, hp⟩⟩⟩)⟩
theorem try_bare {o : Option (List Vw)} {sr : Vw} (ho : o = none ∨ o = some []) (ha : EvFs K ta σ H o) (hb : EvFv K tb σ H sr) : TrB Tl (tLam Tl (TTtr (Cl22 CU) (pMade CR)) fun E => tMake CR (spRlE K CR CU) [] E (tCons ta (tCons tb tNil))) σ H := by
  refine fun H1 e1 T1 Q q => ⟨T1, fun H2 e2 T2 p0 np0 E R hE hR => ?_⟩
  have s0 : Ex H2 (upd H2 p0 (.tup [.str "odd"])) := Ex.new np0
  refine ha _ ((e1.trans e2).trans (.of s0)) _ fun v H3 e3 hv => hb _ (((e1.trans e2).trans (.of s0)).trans (.of e3)) _ fun b H4 e4 hb => ?_
  have e24 : Ex H2 H4 := Ex.trans s0 (Ex.trans e3 e4)
  have hv4 := hv.ex e4
  intro x dx nx ndx nex
  have xE : Ex H4 (upd (upd H4 dx (.own x)) x (.ins CR dx [])) := Ex.trans (Ex.new ndx) (Ex.new (by rw [upd_ne (Ne.symm nex)]; exact nx))
  exact .inr ⟨x, v, b, o, rfl, hv4.ex xE, .inl ⟨ho, fun H' d e nd => hE _ _ _ ⟨.int 0, .str "field", rfl, d, _, rfl, upd_same, lk_ir _ _, rfl, fun p np => by
    have e5 : Ex H2 (upd (upd H' d (.xd [("reason", .str "field"), ("index", .int 0)])) p (.tup [.str "rule", .int 0, .str "field"])) := Ex.trans e24 (Ex.trans xE (Ex.trans e (Ex.trans (Ex.new nd) (Ex.new np))))
    exact q _ _ (e2.trans (.of e5)) (T2.ext e5) upd_same⟩⟩⟩
/-- found = [..]; found.append(..) -/
theorem go_two22 {t1 t2 : TE} {tz : TS} {Dn : Ends} {rs : List Vw} {sr : Vw} {n : Nat} (T : Tabs Tl H) (hn : n < σ.length) (h1 : TrO Tl t1 σ H rs sr) (h2 : ∀ l, TrB Tl t2 (σ.set n (some (.ref l))) H)
    (k : ∀ l v p H', ExtN H H' → Tabs Tl H' → Fr H l → H' l = some (.lst [v, .ref p]) → OutAt H' v rs sr → H' p = some (.tup [.str "rule", .int 0, .str "field"]) → tz Dn (σ.set n (some (.ref l))) H') :
    tSeq (tAsg (tLst (tCons t1 tNil)) (gName n)) (tSeq (tDrop (tBM K "list" rAppend (tVar n) (tCons t2 tNil))) tz) Dn σ H := by
  refine sq_go1 (h1 H (ExtN.refl _) T _ fun v H1 e1 T1 q1 => ⟨by show 1 ≤ sizeLine; decide, fun l nl => ?_⟩)
  have hl : (σ.set n (some (V.ref l)))[n]? = some (some (V.ref l)) := by rw [List.getElem?_set_self hn]
  have s2 : Ex H1 (upd H1 l (.lst [v])) := Ex.new nl
  have hl2 : (upd H1 l (.lst [v])) l = some (.lst [v]) := upd_same
  have frL : Fr H l := Fr.back e1 (Fr.of nl)
  have T2 := T1.ext s2
  have e2 : ExtN H (upd H1 l (.lst [v])) := e1.trans (.of s2)
  have e12 : ExtN H1 (upd H1 l (.lst [v])) := .of s2
  generalize upd H1 l (.lst [v]) = H2 at s2 hl2 T2 e2 e12 ⊢
  show tSeq _ _ Dn (σ.set n (some (V.ref l))) H2
  refine ⟨_, hl, .inl ⟨rfl, _, SqL.of hl2⟩, ?_⟩
  refine h2 l H2 e2 T2 _ fun p H3 e3 T3 q3 => ?_
  have hl3 : H3 l = some (.lst [v]) := e3 _ _ hl2 fun _ z => by cases z
  refine ⟨l, _, _, rfl, rfl, hl3, by show 1 < sizeLine; decide, ?_⟩
  refine k l v p _ (ExtN_mutL (e2.trans e3) frL) (Tabs_mutL T3 hl3) frL upd_same (q1.extn (ExtN_mutL (e12.trans e3) (Fr.of nl))) ?_
  rw [upd_ne (ne_of q3 hl3 (by intro z; cases z))]
  exact q3
end
end Lm

namespace Lm
open PySem L2 Evl RZ
/-! ### fields with one thing wrong -/
/-- a thing that is a row of at most n odd things, or none -/
def Way (st : Addr) (n : Nat) (H : Hp) (v : V) : Prop := ∃ r, RwO (fun a => a ≠ st) H v r ∧ ∀ ws, r = some ws → ws.length ≤ n
theorem Way.kp {st : Addr} {n : Nat} {H H' : Hp} {v : V} (e : Kp st H H') (h : Way st n H v) : Way st n H' v := let ⟨r, h1, h2⟩ := h; ⟨r, h1.kp e, h2⟩
theorem Way.ex {st : Addr} {n : Nat} {H H' : Hp} {v : V} (e : Ex H H') (h : Way st n H v) : Way st n H' v := h.kp (Kp.of e)
theorem Way.mono {st : Addr} {n m : Nat} {H : Hp} {v : V} (hn : n ≤ m) (h : Way st n H v) : Way st m H v := let ⟨r, h1, h2⟩ := h; ⟨r, h1, fun ws e => Nat.le_trans (h2 ws e) hn⟩
theorem Way.of_od {st : Addr} {n : Nat} {H : Hp} {v : V} (hn : 9 ≤ n) (h : Od (fun a => a ≠ st) H v) : Way st n H v := by
  rcases h.cut with h | ⟨a, xs, rfl, hb, hq, hl⟩
  · exact ⟨none, .inr ⟨h, rfl⟩, fun ws e => by cases e⟩
  · have h9 := hl.1
    exact ⟨_, .inl ⟨a, xs, rfl, hb, hq, by omega, fun x hx => .inl (hl.2 x hx), rfl⟩, fun ws e => by cases e; rw [List.length_map]; omega⟩
theorem cutV_from22 (xs : List V) (k : Nat) : cutV xs (some (k : Int)) none = xs.drop k := by
  unfold cutV
  rw [HT.sIx_nat]
  have h2 : HT.sIx xs.length xs.length none = xs.length := rfl
  rw [h2]
  rcases Nat.le_total k xs.length with h | h
  · rw [Nat.min_eq_left h, List.take_of_length_le (by rw [List.length_drop]; omega)]
  · rw [Nat.min_eq_right h, Nat.sub_self, List.take_zero, List.drop_eq_nil_of_le h]
section
variable {K : PySem.W.Frag} {σ : L2.St} {H : Hp} {te ta tb : TE} {st c : Addr} {n : Nat}
theorem el_catN {xs ys : List V} (h1 : EvL ta σ H xs) (h2 : EvL tb σ H ys) (hl : xs.length + ys.length ≤ 1000) : EvL (tOp rCat ta tb) σ H (xs ++ ys) := fun H1 e Q q => h1 H1 e _ fun p H2 np e2 hp => h2 H2 (Ex.trans e e2) _ fun p' H3 np' e3 hp' =>
  ⟨p, p', xs, ys, rfl, rfl, e3 _ _ hp, hp', sz_of (by omega), fun t nt => q t _ (fresh_back (Ex.trans e2 e3) nt) (Ex.trans (Ex.trans e2 e3) (Ex.new nt)) upd_same⟩
theorem el_catV {a : Addr} {xs ys : List V} (h1 : Ev ta σ H (.ref a)) (ha : H a = some (.lst xs)) (h2 : EvL tb σ H ys) (hl : xs.length + ys.length ≤ 1000) : EvL (tOp rCat ta tb) σ H (xs ++ ys) := fun H1 e Q q => h1 H1 e _ fun H2 e2 => h2 H2 (Ex.trans e e2) _ fun p' H3 np' e3 hp' =>
  ⟨a, p', xs, ys, rfl, rfl, Ex.trans e (Ex.trans e2 e3) _ _ ha, hp', sz_of (by omega), fun t nt => q t _ (fresh_back (Ex.trans e2 e3) nt) (Ex.trans (Ex.trans e2 e3) (Ex.new nt)) upd_same⟩
theorem el_catW {a : Addr} {xs ys : List V} (h1 : EvL ta σ H xs) (h2 : Ev tb σ H (.ref a)) (ha : H a = some (.lst ys)) (hl : xs.length + ys.length ≤ 1000) : EvL (tOp rCat ta tb) σ H (xs ++ ys) := fun H1 e Q q => h1 H1 e _ fun p H2 np e2 hp => h2 H2 (Ex.trans e e2) _ fun H3 e3 =>
  ⟨p, a, xs, ys, rfl, rfl, e3 _ _ hp, Ex.trans e (Ex.trans e2 e3) _ _ ha, sz_of (by omega), fun t nt => q t _ (fresh_back (Ex.trans e2 e3) nt) (Ex.trans (Ex.trans e2 e3) (Ex.new nt)) upd_same⟩
theorem el_to {a : Addr} {xs : List V} {k : Nat} {tn : TE} (h : Ev te σ H (.ref a)) (ha : H a = some (.lst xs)) (hn : Ev tn σ H (.int (k : Nat))) : EvL (tSl (rSlL K) te tNoPart (tPart tn)) σ H (xs.take k) := by
  have := el_sl (K := K) h eo_none (eo_some hn) (SqL.of ha)
  rwa [cutV_to22] at this
theorem el_from {a : Addr} {xs : List V} {k : Nat} {tn : TE} (h : Ev te σ H (.ref a)) (ha : H a = some (.lst xs)) (hn : Ev tn σ H (.int (k : Nat))) : EvL (tSl (rSlL K) te (tPart tn) tNoPart) σ H (xs.drop k) := by
  have := el_sl (K := K) h (eo_some hn) eo_none (SqL.of ha)
  rwa [cutV_from22] at this
theorem ev_suc {k : Nat} {tn : TE} (h : Ev tn σ H (.int (k : Nat))) : Ev (tOp rAdd tn (tC (.int 1))) σ H (.int ((k + 1 : Nat) : Int)) := ev_is (ev_op h ev_c rv_I0) (by show V.int ((k : Int) + 1) = _; congr 1)
/-- a way is told -/
def EvW (st : Addr) (n : Nat) (te : TE) (σ : L2.St) (H : Hp) : Prop := ∀ H1, Ex H H1 → ∀ Q : VK, (∀ v H2, Ex H1 H2 → Way st n H2 v → Q v H2) → te σ H1 Q
def EvWs (st : Addr) (n : Nat) (ta : TA) (σ : L2.St) (H : Hp) (l : Nat) : Prop := ∀ H1, Ex H H1 → ∀ Q : List V → Hp → Prop, (∀ vs H2, Ex H1 H2 → vs.length = l → (∀ v ∈ vs, Way st n H2 v) → Q vs H2) → ta σ H1 Q
theorem evw_nil : EvWs st n tNil σ H 0 := fun H1 _ Q q => q [] H1 (Ex.refl _) rfl fun _ z => by cases z
theorem evw_cons {l : Nat} {tr : TA} (h : EvW st n te σ H) (k : EvWs st n tr σ H l) : EvWs st n (tCons te tr) σ H (l + 1) := fun H1 e Q q => h H1 e _ fun v H2 e2 hv => k H2 (Ex.trans e e2) _ fun vs H3 e3 hl hvs => q _ H3 (Ex.trans e2 e3) (by simp [hl]) fun y hy => (List.mem_cons.mp hy).elim (fun z => z ▸ hv.ex e3) (hvs y)
theorem evw_new {zs : List V} (hst : ∃ ys, H st = some (.lst ys)) (h : EvL te σ H zs) (hz : ∀ z ∈ zs, Od (fun a => a ≠ st) H z) (hl : zs.length ≤ n) (h9 : zs.length ≤ 20) : EvW st n te σ H := fun H1 e Q q => h H1 e _ fun p H2 np e2 hp => q _ H2 e2 (by
  obtain ⟨ys, hs⟩ := hst
  exact ⟨some (zs.map tx), .inl ⟨p, zs, rfl, (fun z => by subst z; rw [e _ _ hs] at np; cases np), .inl hp, h9, fun z hz' => (hz z hz').ex (Ex.trans e e2), rfl⟩, fun ws ew => by cases ew; rw [List.length_map]; exact hl⟩)
theorem evw_v {v : V} (h : Ev te σ H v) (hv : Way st n H v) : EvW st n te σ H := fun H1 e Q q => h H1 e _ fun H2 e2 => q v H2 e2 (hv.ex (Ex.trans e e2))
end
/-- what stands while one is made -/
structure Wr (st c a rw : Addr) (xs row : List V) (rs : List Vw) (m : Nat) (H : Hp) : Prop where
  S : StAt H st c
  na : a ≠ st
  nr : rw ≠ st
  ha : H a = some (.lst xs)
  hr : H rw = some (.lst row)
  hR : RwsO (fun a => a ≠ st) H xs rs
  ho : ∀ x ∈ row, Od (fun a => a ≠ st) H x
  hl : ∀ r ∈ rs, ∀ ws, r = some ws → ws.length ≤ m
theorem Wr.kp {st c a rw : Addr} {xs row : List V} {rs : List Vw} {m : Nat} {H H' : Hp} (h : Wr st c a rw xs row rs m H) (e : Kp st H H') (S : StAt H' st c) : Wr st c a rw xs row rs m H' :=
  ⟨S, h.na, h.nr, e _ _ h.na h.ha, e _ _ h.nr h.hr, h.hR.mono fun a o b q _ => ⟨b, e _ _ b q⟩, fun x hx => (h.ho x hx).kp e, h.hl⟩
theorem Wr.ex {st c a rw : Addr} {xs row : List V} {rs : List Vw} {m : Nat} {H H' : Hp} (h : Wr st c a rw xs row rs m H) (e : Ex H H') : Wr st c a rw xs row rs m H' := h.kp (Kp.of e) (h.S.same e)
section
variable {K : PySem.W.Frag} {σ : L2.St} {H : Hp} {st c a rw wl : Addr} {xs row wds : List V} {rs : List Vw} {m at_ : Nat}
theorem go_w1 {Q : VK} (W : Wr st c a rw xs row rs m H) (h0 : σ[0]? = some (some (.ref st))) (h3 : σ[3]? = some (some (.int (at_ : Nat)))) (h4 : σ[4]? = some (some (.ref rw))) (h6 : σ[6]? = some (some (.ref wl))) (hwl : H wl = some (.lst wds)) (nws : wl ≠ st) (hwo : ∀ x ∈ wds, Od (fun a => a ≠ st) H x) (l1 : 0 < wds.length) (l2 : wds.length ≤ 100) (la : at_ < row.length) (lr : row.length ≤ m) (hm18 : m ≤ 18)
    (q : ∀ v H', Kp st H H' → StAt H' st c → Way st (m + 1) H' v → Q v H') :
    (tOp rCat (tOp rCat (tSl (rSlL K) (tVar 4) tNoPart (tPart (tVar 3))) (tLst (tCons (tCall (spOneA K) [] E0 (tCons (tVar 0) (tCons (tVar 6) tNil))) tNil))) (tSl (rSlL K) (tVar 4) (tPart (tOp rAdd (tVar 3) (tC (.int 1)))) tNoPart)) σ H Q := by
  refine (el_to (K := K) (ev_var h4) W.hr (ev_var h3)) H (Ex.refl _) _ fun p1 H1 np1 e1 hp1 => ?_
  have W1 := W.ex e1
  obtain ⟨sl, hsl⟩ := W.S.neL
  have n1 : p1 ≠ st := (ne_of_none hsl np1).symm
  refine ⟨_, h0, _, h6, st, c, wl, wds, rfl, W1.S, nws, .inl (SqL.of (e1 _ _ hwl)), l1, by omega, fun v H2 hv S2 k2 => ⟨by show 1 ≤ sizeLine; decide, fun p2 np2 => ?_⟩⟩
  have W2 := W1.kp k2 S2
  have e3 := Ex.new np2 (o := .lst [v])
  have W3 := W2.ex e3
  have hp1' := e3 _ _ (k2 _ _ n1 hp1)
  refine ⟨p1, p2, row.take at_, [v], rfl, rfl, hp1', upd_same, sz_of (by rw [List.length_take]; show _ + 1 ≤ 100000; omega), fun p3 np3 => ?_⟩
  have e4 := Ex.new np3 (o := .lst (row.take at_ ++ [v]))
  have W4 := W3.ex e4
  have hp3 : (upd (upd H2 p2 (.lst [v])) p3 (.lst (row.take at_ ++ [v]))) p3 = some (.lst (row.take at_ ++ [v])) := upd_same
  have e24 := Ex.trans e3 e4
  generalize upd (upd H2 p2 (.lst [v])) p3 (.lst (row.take at_ ++ [v])) = H4 at *
  refine (el_from (K := K) (ev_var h4) W4.hr (ev_suc (ev_var h3))) H4 (Ex.refl _) _ fun p5 H5 np5 e5 hp5 => ?_
  refine ⟨p3, p5, _, _, rfl, rfl, e5 _ _ hp3, hp5, sz_of (by rw [List.length_append, List.length_take, List.length_drop]; show _ + 1 + _ ≤ 100000; omega), fun t nt => ?_⟩
  have W5 := W4.ex e5
  have e6 := Ex.new nt (o := .lst (row.take at_ ++ [v] ++ row.drop (at_ + 1)))
  have W6 := W5.ex e6
  have nts : t ≠ st := (W5.S.of_new nt).1
  have hv6 : Od (fun a => a ≠ st) (upd H5 t (.lst (row.take at_ ++ [v] ++ row.drop (at_ + 1)))) v := ((((hwo v hv).ex e1).kp k2).ex (Ex.trans e24 (Ex.trans e5 e6)))
  refine q _ _ ((Kp.of e1).trans (k2.trans (Kp.of (Ex.trans e24 (Ex.trans e5 e6))))) W6.S ⟨_, .inl ⟨t, _, rfl, nts, .inl upd_same, by rw [List.length_append, List.length_append, List.length_take, List.length_drop]; show _ + 1 + _ ≤ _; omega, fun z hz => ?_, rfl⟩, fun ws e => by cases e; rw [List.length_map, List.length_append, List.length_append, List.length_take, List.length_drop]; show _ + 1 + _ ≤ _; omega⟩
  rcases List.mem_append.mp hz with hz | hz
  · rcases List.mem_append.mp hz with hz | hz
    · exact W6.ho z (List.mem_of_mem_take hz)
    · rw [List.mem_singleton.mp hz]; exact hv6
  · exact W6.ho z (List.mem_of_mem_drop hz)
theorem go_wret {D : Ends} {kk : Nat} {al : List V} (W : Wr st c a rw xs row rs m H) (h0 : σ[0]? = some (some (.ref st))) (h1 : σ[1]? = some (some (.ref a))) (h2 : σ[2]? = some (some (.int (kk : Nat)))) (h7 : σ[7]? = some (some (.ref wl))) (hwl : H wl = some (.lst al)) (nws : wl ≠ st) (hal : ∀ v ∈ al, Way st (m + 1) H v) (l1 : 0 < al.length) (l2 : al.length ≤ 100) (hk : kk < xs.length) (hx : xs.length ≤ 4)
    (q : ∀ p ys v H', H' p = some (.lst ys) → True → StAt H' st c → Kp st H H' → H' p = some (.lst ys) → ys = xs.take kk ++ v :: xs.drop (kk + 1) → Way st (m + 1) H' v → H p = none → D.rt (.ref p) H') :
    tRet (tOp rCat (tOp rCat (tSl (rSlL K) (tVar 1) tNoPart (tPart (tVar 2))) (tLst (tCons (tCall (spOneA K) [] E0 (tCons (tVar 0) (tCons (tOp rCat (tSl (rSlL K) (tVar 7) tNoPart (tPart (tC (.int 4)))) (tVar 7)) tNil))) tNil))) (tSl (rSlL K) (tVar 1) (tPart (tOp rAdd (tVar 2) (tC (.int 1)))) tNoPart)) D σ H := by
  refine (el_to (K := K) (ev_var h1) W.ha (ev_var h2)) H (Ex.refl _) _ fun p1 H1 np1 e1 hp1 => ?_
  have W1 := W.ex e1
  obtain ⟨sl, hsl⟩ := W.S.neL
  have n1 : p1 ≠ st := (ne_of_none hsl np1).symm
  have hw1 := e1 _ _ hwl
  refine ⟨_, h0, (el_catW (el_to (K := K) (k := 4) (ev_var h7) hw1 ev_c) (ev_var h7) hw1 (by rw [List.length_take]; omega)) H1 (Ex.refl _) _ fun p6 H6 np6 e6 hp6 => ?_⟩
  have W6 := W1.ex e6
  have n6 : p6 ≠ st := by obtain ⟨s2, h2⟩ := W1.S.neL; exact (ne_of_none h2 np6).symm
  refine ⟨st, c, p6, _, rfl, W6.S, n6, .inl (SqL.of hp6), by rw [List.length_append]; omega, by rw [List.length_append, List.length_take]; omega, fun v H2 hv S2 k2 => ⟨by show 1 ≤ sizeLine; decide, fun p2 np2 => ?_⟩⟩
  have hv' : v ∈ al := (List.mem_append.mp hv).elim List.mem_of_mem_take id
  have W2 := W6.kp k2 S2
  have e3 := Ex.new np2 (o := .lst [v])
  have W3 := W2.ex e3
  have hp1' := e3 _ _ (k2 _ _ n1 (e6 _ _ hp1))
  refine ⟨p1, p2, xs.take kk, [v], rfl, rfl, hp1', upd_same, sz_of (by rw [List.length_take]; show _ + 1 ≤ 100000; omega), fun p3 np3 => ?_⟩
  have e4 := Ex.new np3 (o := .lst (xs.take kk ++ [v]))
  have W4 := W3.ex e4
  have hp3 : (upd (upd H2 p2 (.lst [v])) p3 (.lst (xs.take kk ++ [v]))) p3 = some (.lst (xs.take kk ++ [v])) := upd_same
  have e24 := Ex.trans e3 e4
  generalize upd (upd H2 p2 (.lst [v])) p3 (.lst (xs.take kk ++ [v])) = H4 at *
  refine (el_from (K := K) (ev_var h1) W4.ha (ev_suc (ev_var h2))) H4 (Ex.refl _) _ fun p5 H5 np5 e5 hp5 => ?_
  refine ⟨p3, p5, _, _, rfl, rfl, e5 _ _ hp3, hp5, sz_of (by rw [List.length_append, List.length_take, List.length_drop]; show _ + 1 + _ ≤ 100000; omega), fun t nt => ?_⟩
  have W5 := W4.ex e5
  have e6' := Ex.new nt (o := .lst (xs.take kk ++ [v] ++ xs.drop (kk + 1)))
  have W7 := W5.ex e6'
  have kk' : Kp st H (upd H5 t (.lst (xs.take kk ++ [v] ++ xs.drop (kk + 1)))) := (Kp.of (Ex.trans e1 e6)).trans (k2.trans (Kp.of (Ex.trans e24 (Ex.trans e5 e6'))))
  have kb : Kp st H H5 := (Kp.of (Ex.trans e1 e6)).trans (k2.trans (Kp.of (Ex.trans e24 e5)))
  exact q t _ v _ upd_same trivial W7.S kk' upd_same (by rw [List.append_assoc]; rfl) (((hal v hv').kp ((Kp.of (Ex.trans e1 e6)).trans (k2.trans (Kp.of (Ex.trans e24 (Ex.trans e5 e6'))))))) (by
    cases hh : H t with
    | none => rfl
    | some o =>
      have := kb _ _ (W5.S.of_new nt).1 hh
      rw [nt] at this
      cases this)
end
section
variable {P : Program} {w : World} {K : PySem.W.Frag} {mg : Str → Option Value} {base : Heap} {f : Addr} {fd : FuncData}
def spWrong22 : Sp := fun vs H Q _ => ∃ (st c a : Addr) (xs : List V) (rs : List Vw) (m : Nat), vs = [.ref st, .ref a] ∧ StAt H st c ∧ a ≠ st ∧ H a = some (.lst xs) ∧ RwsO (fun a => a ≠ st) H xs rs ∧ 0 < xs.length ∧ xs.length ≤ 4 ∧ 8 ≤ m ∧ m ≤ 18 ∧ (∀ r ∈ rs, ∃ ws, r = some ws ∧ 7 ≤ ws.length ∧ ws.length ≤ m) ∧
  ∀ p ys rs' H', H p = none → StAt H' st c → Kp st H H' → H' p = some (.lst ys) → ys.length = xs.length → RwsO (fun a => a ≠ st) H' ys rs' → (∀ r ∈ rs', ∀ ws, r = some ws → ws.length ≤ m + 1) → Q (.ref p) H'
abbrev s_wrong : Stmt := top 35
theorem sc_wrong : FnScope ["_law_state", "_law_rows", "_law_k", "_law_at", "_law_row", "_law_odd_here", "_law_words", "_law_ways"] ["_law_state", "_law_rows"] (defScope s_wrong) := ⟨rfl, rfl, rfl, by decide +kernel, rfl, by decide +kernel, by decide +kernel⟩
theorem odf_lit {s : Str} (h : s.cps.size ≤ 9) (h2 : (s.cps.toList.all fun c => decide (c < 16 ^ 8)) = true) {B : Addr → Prop} {H : Hp} : Od B H (.str s) := .inl (.inl ⟨s, rfl, h, h2⟩)
theorem ok_wrong {fT fO fD : Addr} {fdT fdO fdD : FuncData} (F : L2.Fun K "_law_wrong" "_law_wrong" s_wrong f fd) (T : Blt mg) (D_take : DefOk P w K mg base 2 "_law_take" fT fdT ["_law_state", "_law_many"] spTake) (D_one : DefOk P w K mg base 3 "_law_one" fO fdO ["_law_state", "_law_things"] (spOneA K)) (D_odd : DefOk P w K mg base 4 "_law_odd" fD fdD ["_law_state"] spOdd) :
    FnOk P w K mg base CX0 5 f fd ["_law_state", "_law_rows"] spWrong22 := by
  refine F.ok sc_wrong (fun vs H Q E h => ?_) (fun cdv A outer s H vs Q E hr h => ?_)
  · obtain ⟨st, c, a, xs, rs, m, rfl, _⟩ := h
    rfl
  · obtain ⟨st, c, a, xs, rs, m, rfl, S, na, ha, hR, l0, l4, m8, m18, hr7, k⟩ := h
    refine ⟨_, (pss_cons (ps_par (i := 2) (j := 3) (by rfl) sc_wrong.nd rfl rfl (by decide) rfl rfl (pa_cons (pe_d D_take (hr.mono (by decide)) (pa_cons (pv 0) (pa_cons (pe_callB call_len_seq (by rfl) T.b_len PySem.boot_len (pa_cons (pv 1) pa_nil)) pa_nil))) (pa_cons (pe_d D_take (hr.mono (by decide)) (pa_cons (pv 0) (pa_cons pe_int pa_nil))) pa_nil)) (by rfl))
        (pss_cons (ps_par (i := 4) (j := 5) (by rfl) sc_wrong.nd rfl rfl (by decide) rfl rfl (pa_cons (pe_callTy call_list_of (by rfl) T.b_list (by decide +kernel) (pa_cons (pe_ix ix_list (pv 1) (pv 2) (fun _ _ => rfl)) pa_nil)) (pa_cons (pe_d D_odd (hr.mono (by decide)) (pa_cons (pv 0) pa_nil)) pa_nil)) (by rfl))
        (pss_cons (ps_set (i := 6) sc_wrong.nd rfl (by first | exact Or.inl rfl | exact Or.inr rfl) (pe_lst (pa_cons pe_str (pa_cons pe_str (pa_cons pe_str (pa_cons pe_str (pa_cons pe_str (pa_cons pe_str (pa_cons pe_str (pa_cons pe_str (pa_cons pe_str (pa_cons pe_str (pa_cons pe_str (pa_cons (pe_ix ix_seq (pe_ix ix_list (pv 1) pe_int (fun _ _ => rfl)) pe_int (fun _ _ => rfl)) pa_nil))))))))))))))
        (pss_cons (ps_set (i := 7) sc_wrong.nd rfl (by first | exact Or.inl rfl | exact Or.inr rfl) (pe_lst (pa_cons (pe_op op_cat (pe_op op_cat (pe_slice sl_list (pv 4) po_none (po_some (pv 3))) (pe_lst (pa_cons (pe_d D_one (hr.mono (by decide)) (pa_cons (pv 0) (pa_cons (pv 6) pa_nil))) pa_nil))) (pe_slice sl_list (pv 4) (po_some (pe_op op_add (pv 3) pe_int)) po_none)) (pa_cons (pe_op op_cat (pe_op op_cat (pe_slice sl_list (pv 4) po_none (po_some (pv 3))) (pe_lst (pa_cons (pv 5) pa_nil))) (pe_slice sl_list (pv 4) (po_some (pe_op op_add (pv 3) pe_int)) po_none)) pa_nil))))
        (pss_cons (ps_set (i := 7) sc_wrong.nd rfl (by first | exact Or.inl rfl | exact Or.inr rfl) (pe_op op_cat (pv 7) (pe_lst (pa_cons (pe_op op_cat (pe_slice sl_list (pv 4) po_none (po_some (pv 3))) (pe_slice sl_list (pv 4) (po_some (pe_op op_add (pv 3) pe_int)) po_none)) (pa_cons (pe_op op_cat (pv 4) (pe_lst (pa_cons pe_str pa_nil))) (pa_cons (pv 5) (pa_cons pe_non (pa_cons (pe_slice sl_list (pv 4) po_none (po_some pe_int)) (pa_cons (pe_ix ix_list (pv 1) pe_int (fun _ _ => rfl)) pa_nil)))))))))
        (pss_one (ps_ret (pe_op op_cat (pe_op op_cat (pe_slice sl_list (pv 1) po_none (po_some (pv 2))) (pe_lst (pa_cons (pe_d D_one (hr.mono (by decide)) (pa_cons (pv 0) (pa_cons (pe_op op_cat (pe_slice sl_list (pv 7) po_none (po_some pe_int)) (pv 7)) pa_nil))) pa_nil))) (pe_slice sl_list (pv 1) (po_some (pe_op op_add (pv 2) pe_int)) po_none))))))))), ?_⟩
    refine ⟨_, rfl, _, rfl, a, xs, rfl, .inl (SqL.of ha), st, c, _, rfl, S, by omega, by omega, fun d1 H1 d10 d11 S1 k1 => ?_⟩
    refine ⟨_, rfl, st, c, 7, rfl, S1, by decide, by decide, fun d2 H2 d20 d21 S2 k2 => ⟨_, _, rfl, ?_⟩⟩
    obtain ⟨kk, rfl⟩ := Int.eq_ofNat_of_zero_le d10
    obtain ⟨at_, rfl⟩ := Int.eq_ofNat_of_zero_le d20
    have k02 := k1.trans k2
    have ha2 := k02 _ _ na ha
    have hR2 : RwsO (fun a => a ≠ st) H2 xs rs := hR.mono fun a o b q _ => ⟨b, k02 _ _ b q⟩
    dsimp only [L2.start, List.set, List.map, List.replicate, List.append, List.cons_append, List.nil_append]
    have hkx : kk < xs.length := by omega
    have hxk : xs[kk]? = some xs[kk] := List.getElem?_eq_getElem hkx
    have hrk : rs[kk]? = some (rs[kk]'(by rw [← hR.1]; exact hkx)) := List.getElem?_eq_getElem _
    obtain ⟨wsk, hwk, h7, hm⟩ := hr7 _ (List.mem_of_getElem? hrk)
    obtain ⟨rwa, row, hxr, hb, hq, hl9, hod, hrr⟩ : ∃ b ys, xs[kk] = .ref b ∧ b ≠ st ∧ SeqAt H2 b ys ∧ ys.length ≤ 20 ∧ (∀ x ∈ ys, Od (fun a => a ≠ st) H2 x) ∧ wsk = ys.map tx := by
      rcases hR2.2 kk _ _ hxk hrk with ⟨b, ys, e1, e2, e3, e4, e5, e6⟩ | ⟨_, e6⟩
      · rw [hwk] at e6
        exact ⟨b, ys, e1, e2, e3, e4, e5, Option.some.inj e6⟩
      · rw [hwk] at e6; cases e6
    have lrow : 7 ≤ row.length ∧ row.length ≤ m := by rw [hrr, List.length_map] at h7 hm; exact ⟨h7, hm⟩
    refine ev_op (ev_var rfl) (ev_var rfl) (rv_ixL (SqL.of ha2) (atI_nat hxk)) H2 (Ex.refl _) _ fun H3 e3 => ?_
    rw [hxr]
    refine ⟨rwa, row, rfl, (hq.same e3).imp SqL.of SqT.of, fun rw nrw => ?_⟩
    have S3 := S2.same e3
    have e4 := Ex.new nrw (o := .lst row)
    have hrw4 : (upd H3 rw (.lst row)) rw = some (.lst row) := upd_same
    have nrs : rw ≠ st := (S3.of_new nrw).1
    have e24 := Ex.trans e3 e4
    have S4 := S2.same e24
    generalize upd H3 rw (.lst row) = H4 at e4 hrw4 e24 S4 ⊢
    refine ⟨_, rfl, st, c, rfl, S4, fun ov H5 S5 k5 hov _ => ⟨_, _, rfl, ?_⟩⟩
    dsimp only [List.set]
    have hovs : Od (fun a => a ≠ st) H5 ov := hov.imp fun b hb _ => by
      obtain ⟨ys, hs⟩ := S4.neL
      exact (ne_of_none hs hb).symm
    have k25 : Kp st H2 H5 := (Kp.of e24).trans k5
    have W5 : Wr st c a rw xs row rs m H5 := ⟨S5, na, nrs, k25 _ _ na ha2, k5 _ _ nrs hrw4, hR2.mono fun a o b q _ => ⟨b, k25 _ _ b q⟩, fun x hx => ((hod x hx).ex e24).kp k5, fun r hr ws e => by obtain ⟨ws', q1, q2, q3⟩ := hr7 r hr; rw [e] at q1; cases q1; exact q3⟩
    have k05 : Kp st H H5 := k02.trans k25
    -- the first row's first thing
    have hx0 : xs[0]? = some xs[0] := List.getElem?_eq_getElem l0
    have hr0 : rs[0]? = some (rs[0]'(by rw [← hR.1]; exact l0)) := List.getElem?_eq_getElem _
    obtain ⟨ws0, hw0, h70, _⟩ := hr7 _ (List.mem_of_getElem? hr0)
    obtain ⟨b0, row0, hxr0, hb0, hq0, hod0, hrr0⟩ : ∃ b ys, xs[0] = .ref b ∧ b ≠ st ∧ SeqAt H5 b ys ∧ (∀ x ∈ ys, Od (fun a => a ≠ st) H5 x) ∧ ws0 = ys.map tx := by
      rcases W5.hR.2 0 _ _ hx0 hr0 with ⟨b, ys, e1, e2, e3, e4, e5, e6⟩ | ⟨_, e6⟩
      · rw [hw0] at e6
        exact ⟨b, ys, e1, e2, e3, e5, Option.some.inj e6⟩
      · rw [hw0] at e6; cases e6
    obtain ⟨z0, hz0⟩ : ∃ z, row0[0]? = some z := ⟨_, List.getElem?_eq_getElem (by rw [hrr0, List.length_map] at h70; omega)⟩
    have hz0o := hod0 z0 (List.mem_of_getElem? hz0)
    have lit : ∀ (s : Str), s.cps.size ≤ 9 → (s.cps.toList.all fun c => decide (c < 16 ^ 8)) = true → ∀ H', Od (fun a => a ≠ st) H' (.str s) := fun s h1 h2 H' => odf_lit h1 h2
    refine q_asgL (xs := [.str "no", .str "last", .str "raise", .str "row", .str "lower", .str "least", .str "later", .str "exact", .str "floored", .str "read", .str "No", z0]) (el_lst (ea_cons ev_c (ea_cons ev_c (ea_cons ev_c (ea_cons ev_c (ea_cons ev_c (ea_cons ev_c (ea_cons ev_c (ea_cons ev_c (ea_cons ev_c (ea_cons ev_c (ea_cons ev_c (ea_cons (ev_op (ev_is (ev_op (ev_var rfl) ev_c (rv_ixL (SqL.of W5.ha) (atI_nat (j := 0) hx0))) hxr0) ev_c (rv_ixQ1 (n := 0) hq0 hz0)) ea_nil)))))))))))) (by show 12 ≤ 100000; decide)) fun wl H6 nwl e6 hwl => ?_
    dsimp only [List.set]
    have W6 := W5.ex e6
    have ov6 := hovs.ex e6
    have nws : wl ≠ st := (W5.S.of_new nwl).1
    have hwo : ∀ x ∈ ([.str "no", .str "last", .str "raise", .str "row", .str "lower", .str "least", .str "later", .str "exact", .str "floored", .str "read", .str "No", z0] : List V), Od (fun a => a ≠ st) H6 x := fun x hx => by
      simp only [List.mem_cons, List.not_mem_nil, or_false] at hx
      rcases hx with rfl | rfl | rfl | rfl | rfl | rfl | rfl | rfl | rfl | rfl | rfl | rfl
      all_goals first | exact hz0o.ex e6 | exact odf_lit (by decide +kernel) (by decide +kernel)
    have l12 : ([.str "no", .str "last", .str "raise", .str "row", .str "lower", .str "least", .str "later", .str "exact", .str "floored", .str "read", .str "No", z0] : List V).length = 12 := rfl
    generalize ([.str "no", .str "last", .str "raise", .str "row", .str "lower", .str "least", .str "later", .str "exact", .str "floored", .str "read", .str "No", z0] : List V) = wds at hwl hwo l12
    have lat : at_ < 7 := by omega
    refine sq_go1 (go_w1 W6 rfl rfl rfl rfl hwl nws hwo (by omega) (by omega) (by omega) (by omega) m18 fun v1 H7 k7 S7 hv1 => ?_)
    have W7 := W6.kp k7 S7
    have ov7 := ov6.kp k7
    have row_od : ∀ {H' : Hp}, Wr st c a rw xs row rs m H' → ∀ x ∈ row.take at_ ++ row.drop (at_ + 1), Od (fun a => a ≠ st) H' x := fun W x hx => (List.mem_append.mp hx).elim (fun h => W.ho x (List.mem_of_mem_take h)) fun h => W.ho x (List.mem_of_mem_drop h)
    have lro : (row.take at_ ++ row.drop (at_ + 1)).length + 1 = row.length := by rw [List.length_append, List.length_take, List.length_drop]; omega
    have w2 : EvW st (m + 1) (tOp rCat (tOp rCat (tSl (rSlL K) (tVar 4) tNoPart (tPart (tVar 3))) (tLst (tCons (tVar 5) tNil))) (tSl (rSlL K) (tVar 4) (tPart (tOp rAdd (tVar 3) (tC (.int 1)))) tNoPart)) [some (.ref st), some (.ref a), some (.int (kk : Nat)), some (.int (at_ : Nat)), some (.ref rw), some ov, some (.ref wl), none] H7 :=
      evw_new W7.S.neL (el_catN (el_catN (el_to (ev_var rfl) W7.hr (ev_var rfl)) (el_lst (vs := [ov]) (ea_cons (ev_var rfl) ea_nil) (by show 1 ≤ 100000; decide)) (by rw [List.length_take]; show _ + 1 ≤ 1000; omega)) (el_from (ev_var rfl) W7.hr (ev_suc (ev_var rfl))) (by rw [List.length_append, List.length_take, List.length_drop]; show _ + 1 + _ ≤ 1000; omega)) (fun z hz => by
        rcases List.mem_append.mp hz with hz | hz
        · rcases List.mem_append.mp hz with hz | hz
          · exact W7.ho z (List.mem_of_mem_take hz)
          · rw [List.mem_singleton.mp hz]; exact ov7
        · exact W7.ho z (List.mem_of_mem_drop hz)) (by rw [List.length_append, List.length_append, List.length_take, List.length_drop]; show _ + 1 + _ ≤ _; omega) (by rw [List.length_append, List.length_append, List.length_take, List.length_drop]; show _ + 1 + _ ≤ _; omega)
    refine (evw_cons w2 evw_nil) H7 (Ex.refl _) _ fun vs2 H8 e8 lv2 hvs2 => ⟨by show vs2.length + 1 ≤ _; rw [lv2]; decide, fun wy1 nwy1 => ?_⟩
    have W8 := W7.ex e8
    have e9 := Ex.new nwy1 (o := .lst (v1 :: vs2))
    have hwy1 : (upd H8 wy1 (.lst (v1 :: vs2))) wy1 = some (.lst (v1 :: vs2)) := upd_same
    have W9 := W8.ex e9
    have ov9 := (ov7.ex e8).ex e9
    have nwy1s : wy1 ≠ st := (W8.S.of_new nwy1).1
    have hw1 : ∀ v ∈ v1 :: vs2, Way st (m + 1) (upd H8 wy1 (.lst (v1 :: vs2))) v := fun v hv => by
      rcases List.mem_cons.mp hv with rfl | z
      · exact (hv1.ex e8).ex e9
      · exact (hvs2 v z).ex e9
    have lw1 : (v1 :: vs2).length = 2 := by rw [List.length_cons, lv2]
    have k69 : Kp st H6 (upd H8 wy1 (.lst (v1 :: vs2))) := k7.trans (Kp.of (Ex.trans e8 e9))
    generalize v1 :: vs2 = ws1 at *
    generalize upd H8 wy1 (.lst ws1) = H9 at *
    dsimp only [gName, List.set]
    have wx : EvWs st (m + 1) (tCons (tOp rCat (tSl (rSlL K) (tVar 4) tNoPart (tPart (tVar 3))) (tSl (rSlL K) (tVar 4) (tPart (tOp rAdd (tVar 3) (tC (.int 1)))) tNoPart)) (tCons (tOp rCat (tVar 4) (tLst (tCons (tC (.str "exact")) tNil))) (tCons (tVar 5) (tCons (tC .non) (tCons (tSl (rSlL K) (tVar 4) tNoPart (tPart (tC (.int 1)))) (tCons (tOp (rIxL K) (tVar 1) (tC (.int 0))) tNil)))))) [some (.ref st), some (.ref a), some (.int (kk : Nat)), some (.int (at_ : Nat)), some (.ref rw), some ov, some (.ref wl), some (.ref wy1)] H9 6 := by
      refine evw_cons ?_ (evw_cons ?_ (evw_cons ?_ (evw_cons ?_ (evw_cons ?_ (evw_cons ?_ evw_nil)))))
      · exact evw_new W9.S.neL (el_catN (el_to (ev_var rfl) W9.hr (ev_var rfl)) (el_from (ev_var rfl) W9.hr (ev_suc (ev_var rfl))) (by rw [List.length_take, List.length_drop]; omega)) (row_od W9) (by omega) (by omega)
      · exact evw_new W9.S.neL (el_catV (ev_var rfl) W9.hr (el_lst (vs := [.str "exact"]) (ea_cons ev_c ea_nil) (by show 1 ≤ 100000; decide)) (by show _ + 1 ≤ 1000; omega)) (fun z hz => (List.mem_append.mp hz).elim (W9.ho z) fun h => by
          rw [List.mem_singleton.mp h]
          exact odf_lit (by decide +kernel) (by decide +kernel)) (by rw [List.length_append]; show _ + 1 ≤ _; omega) (by rw [List.length_append]; show _ + 1 ≤ _; omega)
      · exact evw_v (ev_var rfl) (Way.of_od (by omega) ov9)
      · exact evw_v ev_c (Way.of_od (by omega) (.inl (.inr (.inl rfl))))
      · exact evw_new W9.S.neL (el_to (k := 1) (ev_var rfl) W9.hr ev_c) (fun z hz => W9.ho z (List.mem_of_mem_take hz)) (by rw [List.length_take]; omega) (by rw [List.length_take]; omega)
      · exact evw_v (ev_op (ev_var rfl) ev_c (rv_ixL (SqL.of W9.ha) (atI_nat (j := 0) hx0))) ⟨_, W9.hR.2 0 _ _ hx0 hr0, fun ws e => Nat.le_trans (W9.hl _ (List.mem_of_getElem? hr0) ws e) (by omega)⟩
    refine sq_go1 ⟨_, rfl, wx H9 (Ex.refl _) _ fun vs3 H10 e10 lv3 hvs3 => ⟨by rw [lv3]; decide, fun wy2 nwy2 => ?_⟩⟩
    have e11 := Ex.new nwy2 (o := .lst vs3)
    have hwy2 : (upd H10 wy2 (.lst vs3)) wy2 = some (.lst vs3) := upd_same
    have hvs3' : ∀ v ∈ vs3, Way st (m + 1) (upd H10 wy2 (.lst vs3)) v := fun v hv => (hvs3 v hv).ex e11
    have W11 := (W9.ex e10).ex e11
    have e911 := Ex.trans e10 e11
    generalize upd H10 wy2 (.lst vs3) = H11 at *
    refine ⟨wy1, wy2, ws1, vs3, rfl, rfl, e911 _ _ hwy1, hwy2, sz_of (by omega), fun wy nwy => ?_⟩
    have e12 := Ex.new nwy (o := .lst (ws1 ++ vs3))
    have hwy : (upd H11 wy (.lst (ws1 ++ vs3))) wy = some (.lst (ws1 ++ vs3)) := upd_same
    have hall : ∀ v ∈ ws1 ++ vs3, Way st (m + 1) (upd H11 wy (.lst (ws1 ++ vs3))) v := fun v hv => (List.mem_append.mp hv).elim (fun z => ((hw1 v z).ex e911).ex e12) fun z => (hvs3' v z).ex e12
    have W12 := W11.ex e12
    have nwys : wy ≠ st := (W11.S.of_new nwy).1
    have lall : (ws1 ++ vs3).length = 8 := by rw [List.length_append, lw1, lv3]
    have k612 : Kp st H6 (upd H11 wy (.lst (ws1 ++ vs3))) := k69.trans (Kp.of (Ex.trans e911 e12))
    generalize ws1 ++ vs3 = al at *
    generalize upd H11 wy (.lst al) = H12 at *
    dsimp only [gName, List.set]
    have k012 : Kp st H H12 := (k05.trans (Kp.of e6)).trans k612
    show tRet _ _ [some (.ref st), some (.ref a), some (.int (kk : Nat)), some (.int (at_ : Nat)), some (.ref rw), some ov, some (.ref wl), some (.ref wy)] H12
    refine go_wret W12 rfl rfl rfl rfl hwy nwys hall (by omega) (by omega) hkx l4 fun p ys v H' hp _ S' k' _ hys hv hfr => ?_
    have k0 := k012.trans k'
    have W' := W12.kp k' S'
    obtain ⟨rv, hrv, hrl⟩ := hv
    have hfr0 : H p = none := by
      cases hh : H p with
      | none => rfl
      | some o =>
        by_cases hps : p = st
        · subst hps
          obtain ⟨y1, hy1⟩ := W12.S.neL
          rw [hy1] at hfr
          cases hfr
        · have := k012 _ _ hps hh
          rw [hfr] at this
          cases this
    refine k p ys (rs.take kk ++ rv :: rs.drop (kk + 1)) H' hfr0 S' k0 hp (by rw [hys, List.length_append, List.length_take, List.length_cons, List.length_drop]; omega) ?_ ?_
    · rw [hys]
      have lrs := hR.1
      refine ⟨by simp only [List.length_append, List.length_take, List.length_cons, List.length_drop]; omega, fun i x r h1 h2 => ?_⟩
      rcases Nat.lt_trichotomy i kk with h | h | h
      · rw [List.getElem?_append_left (by rw [List.length_take]; omega), List.getElem?_take_of_lt h] at h1 h2
        exact W'.hR.2 i x r h1 h2
      · subst h
        rw [List.getElem?_append_right (by rw [List.length_take]; omega), List.length_take, Nat.min_eq_left (by omega), Nat.sub_self] at h1 h2
        cases h1; cases h2
        exact hrv
      · rw [List.getElem?_append_right (by rw [List.length_take]; omega), List.length_take, Nat.min_eq_left (by omega)] at h1 h2
        obtain ⟨j, hj⟩ : ∃ j, i = kk + 1 + j := ⟨i - (kk + 1), by omega⟩
        subst hj
        rw [show kk + 1 + j - kk = j + 1 by omega, List.getElem?_cons_succ, List.getElem?_drop] at h1 h2
        exact W'.hR.2 _ x r h1 h2
    · intro r hr ws e
      rcases List.mem_append.mp hr with h | h
      · exact Nat.le_trans (W'.hl r (List.mem_of_mem_take h) ws e) (by omega)
      · rcases List.mem_cons.mp h with rfl | h
        · exact hrl ws e
        · exact Nat.le_trans (W'.hl r (List.mem_of_mem_drop h) ws e) (by omega)
end
end Lm

namespace Lm
open PySem L2 Evl RZ LamX
abbrev qw22 : Str := "_law_written_right.<locals>.<lambda>"
abbrev ql22 : Str := "law.<locals>.<lambda>"
/-! ### the written field -/
def rowW (i : Nat) : List Str := "a" :: ((["no", "no", "no", "no", "no", "exact"] : List Str).take i ++ List.replicate (6 - i) ("x" : Str))
theorem whyW : ∀ i, i < 6 → whyP [some ((rowW i).map some)] 0 = .str (colN.getD i "") := by decide +kernel
theorem rowW_sz : ∀ i, i < 6 → ∀ x ∈ rowW i, x.cps.size ≤ 9 ∧ (x.cps.toList.all fun c => decide (c < 16 ^ 8)) = true := by decide +kernel
theorem repl_flat {x : V} (n : Nat) : (List.replicate n [x]).flatten = List.replicate n x := by
  induction n with
  | zero => rfl
  | succ n ih => rw [List.replicate_succ, List.flatten_cons, ih, List.replicate_succ]; rfl
section
variable {K : PySem.W.Frag} {σ : L2.St} {H : Hp} {te ta tb tn : TE}
theorem el_repX {x : V} {n : Nat} (h : EvL te σ H [x]) (hn : Ev tn σ H (.int (n : Nat))) (hl : n ≤ 1000) : EvL (tOp rRep te tn) σ H (List.replicate n x) := fun H1 e Q q => h H1 e _ fun p H2 np e2 hp => hn H2 (Ex.trans e e2) _ fun H3 e3 =>
  ⟨p, n, [x], rfl, rfl, e3 _ _ hp, by omega, by omega, sz_of (by show 1 * (n : Int).toNat ≤ 100000; simp; omega), fun t nt => by
    have : (List.replicate (n : Int).toNat [x]).flatten = List.replicate n x := by rw [Int.toNat_natCast]; exact repl_flat n
    rw [this]
    exact q t _ (fresh_back (Ex.trans e2 e3) nt) (Ex.trans (Ex.trans e2 e3) (Ex.new nt)) upd_same⟩
theorem q_parLL {tz : TS} {D : Ends} {i j : Nat} {xs ys : List V} (h1 : EvL ta σ H xs) (h2 : EvL tb σ H ys) (k : ∀ p q H1, Ex H H1 → H1 p = some (.lst xs) → H1 q = some (.lst ys) → tz D ((σ.set i (some (.ref p))).set j (some (.ref q))) H1) : tSeq (tPar i j (tCons ta (tCons tb tNil))) tz D σ H :=
  h1 H (Ex.refl _) _ fun p H1 np e1 hp => h2 H1 e1 _ fun q H2 nq e2 hq => ⟨_, _, rfl, k p q H2 (Ex.trans e1 e2) (e2 _ _ hp) hq⟩
/-- a row of short texts, seen -/
theorem fv_txt {a : Addr} {ws : List Str} (h : SeqAt H a (ws.map V.str)) (hz : ∀ x ∈ ws, x.cps.size ≤ 1000) : FvAt K H (.ref a) (some (ws.map some)) := .inl ⟨a, _, rfl, h, fun x hx => by
  obtain ⟨s, hs, rfl⟩ := List.mem_map.mp hx
  exact ⟨.inl rfl, .inl ⟨s, rfl, hz s hs, rfl⟩⟩, by rw [List.map_map]; rfl⟩
theorem efv_tup {ta : TA} {ws : List Str} (h : ∀ H1, ExtN H H1 → EvU (tTup ta) σ H1 (ws.map V.str)) (hz : ∀ x ∈ ws, x.cps.size ≤ 1000) : EvFv K (tTup ta) σ H (some (ws.map some)) := fun H1 e Q q => h H1 e H1 (Ex.refl _) _ fun p H2 _ e2 hp => q _ H2 e2 (fv_txt (.inr hp) hz)
theorem efs_one {i : Nat} {a : Addr} {r : Vw} (hi : σ[i]? = some (some (.ref a))) (h : ∀ H1, ExtN H H1 → FvAt K H1 (.ref a) r) : EvFs K (tLst (tCons (tVar i) tNil)) σ H (some [r]) := fun H1 e Q q => ⟨_, hi, by show 1 ≤ sizeLine; decide, fun p np => q _ _ (Ex.new np) (.inl ⟨p, [.ref a], [r], rfl, .inl upd_same, ⟨rfl, fun j r' hr => by
  cases j with
  | zero => cases hr; exact ⟨_, rfl, (h H1 e).ex (Ex.new np)⟩
  | succ j => simp at hr⟩, rfl⟩)⟩
end
section
variable {P : Program} {w : World} {K : PySem.W.Frag} {mg : Str → Option Value} {base : Heap} {f : Addr} {fd : FuncData}
def spWr22 (Tl : List (Addr × Str)) : Sp := fun vs H Q _ => vs = [] ∧ Tabs Tl H ∧ ∀ H', ExtN H H' → Tabs Tl H' → Q (.bl true) H'
abbrev s_written_right : Stmt := top 36
theorem sc_written_right : FnScope ["_law_right", "_law_parts_here", "_law_k", "_law_part", "_law_row"] [] (defScope s_written_right) := ⟨rfl, rfl, rfl, by decide +kernel, rfl, by decide +kernel, by decide +kernel⟩
theorem ok_written22 {CR CU c T1 g fB fM fS fI : Addr} {Tl : List (Addr × Str)} {fdg dM dS dI : FuncData} (F : L2.Fun K "_law_written_right" "_law_written_right" s_written_right f fd) (hc : fd.code = Value.ref c) (T : Blt mg) (Fg : L2.Fun K "_law_tried" "_law_tried" s_tried g fdg) (hbg : L2.Binds K fdg ["_law_ask"] []) (hmg : mg "_law_tried" = some (.ref g))
    (TRl : ErrF2 K mg "BadRule" CU fB "index" "reason") (M_Rule_fields : MetOk P w K mg base 1 CR "fields" fM dM ["self"] (spRlFields CR)) (TB : LamX.TabB base mg c T1) (hmT : (T1, qw22) ∈ Tl) (hu : ∀ p ∈ Tl, p.1 = T1 → p.2 = qw22)
    (KX_Rule : ClsOkX P w K mg base 4 "Rule" CR fI dI ["self", "fields", "show"] (spRlE K CR CU)) (D_same : DefOk P w K mg base 5 "_law_same" fS dS ["_law_found", "_law_due_here"] (spSame 5)) : FnOk P w K mg base CX0 8 f fd [] (spWr22 Tl) := by
  refine okC F hc sc_written_right (fun vs H Q E h => ?_) (fun A outer s H vs Q E hr h => ?_)
  · obtain ⟨rfl, _⟩ := h
    rfl
  · obtain ⟨rfl, hT, k⟩ := h
    refine ⟨_, (pss_cons (ps_par (i := 0) (j := 1) (by rfl) sc_written_right.nd rfl rfl (by decide) rfl rfl (pa_cons (pe_lst (pa_cons pe_str (pa_cons pe_str (pa_cons pe_str (pa_cons pe_str (pa_cons pe_str (pa_cons pe_str pa_nil))))))) (pa_cons (pe_lst (pa_cons pe_str (pa_cons pe_str (pa_cons pe_str (pa_cons pe_str (pa_cons pe_str (pa_cons pe_str pa_nil))))))) pa_nil)) (by rfl))
        (pss_cons (ps_for PassesOwn.never rfl (pi_enumA rfl T.b_enumerate (pa_cons (pv 1) pa_nil)) (pg_tup rfl (pgs_cons (pg_name (i := 2) sc_written_right.nd rfl (by first | exact Or.inl rfl | exact Or.inr rfl)) (pgs_cons (pg_name (i := 3) sc_written_right.nd rfl (by first | exact Or.inl rfl | exact Or.inr rfl)) pgs_nil))) (pss_cons (ps_set (i := 4) sc_written_right.nd rfl (by first | exact Or.inl rfl | exact Or.inr rfl) (pe_op op_cat (pe_op op_cat (pe_lst (pa_cons pe_str pa_nil)) (pe_slice sl_list (pv 0) po_none (po_some (pv 2)))) (pe_op op_rep (pe_lst (pa_cons pe_str pa_nil)) (pe_op op_sub pe_int (pv 2)))))
        (pss_one (ps_if (pt_not (pt_val (pe_d D_same (hr.mono (by decide)) (pa_cons (pe_tried (k := 5) Fg hbg hmg TRl M_Rule_fields TB rfl hmT hu (by decide) (hr.mono (by decide)) (fun A outer s H E f c2 hr2 => by exact (pe_mkL KX_Rule (hr2.mono (by decide)) (pa_cons (pe_lst (pa_cons (pv 4) pa_nil)) (pa_cons (pe_tup (pa_cons pe_str (pa_cons pe_str pa_nil))) pa_nil)))) (LamX.lamS_by (by kernel_rfl))) (pa_cons (pe_tup (pa_cons pe_str (pa_cons pe_int (pa_cons (pv 3) pa_nil)))) pa_nil))))) (pss_one (ps_ret pe_bl)) pss_nil))))
        (pss_one (ps_ret pe_bl)))), ?_⟩
    refine q_parLL (xs := (["no", "no", "no", "no", "no", "exact"] : List Str).map V.str) (ys := colN.map V.str) (el_lst (vs := (["no", "no", "no", "no", "no", "exact"] : List Str).map V.str) (ea_cons ev_c (ea_cons ev_c (ea_cons ev_c (ea_cons ev_c (ea_cons ev_c (ea_cons ev_c ea_nil)))))) (by show 6 ≤ 100000; decide)) (el_lst (vs := colN.map V.str) (ea_cons ev_c (ea_cons ev_c (ea_cons ev_c (ea_cons ev_c (ea_cons ev_c (ea_cons ev_c ea_nil)))))) (by show 6 ≤ 100000; decide)) fun pr pc H2 e02 hpr2 hpc => ?_
    dsimp only [L2.start, List.set, List.map, List.replicate, List.append, List.cons_append, List.nil_append]
    have T2 := hT.ext e02
    refine ⟨_, rfl, for_enumA1 (.inl hpc) (fun i σ' H' => ∃ u2 u3 u4 : Option V, σ' = [some (.ref pr), some (.ref pc), u2, u3, u4] ∧ ExtN H2 H' ∧ Tabs Tl H') ⟨_, _, _, rfl, ExtN.refl _, T2⟩ (fun i σ' H' _ ⟨_, _, _, _, e, _⟩ o ho => by rw [hpc] at ho; cases ho; exact e _ _ hpc (fun _ z => by cases z)) ?_ ?_⟩
    · rintro i x σ' H3 H4 hi ⟨u2, u3, u4, rfl, e, T3⟩ ⟨tpa, x1, x2, rfl, nT, rfl, hx1, hx2⟩
      cases (Option.some.inj hx1)
      have hi6 : i < 6 := hi
      have hx2 : (colN.map V.str)[i]? = some x2 := hx2
      have hcol : x2 = .str (colN.getD i "") := by
        obtain ⟨s, hs, rfl⟩ := map_inv1 hx2
        rw [List.getD_eq_getElem?_getD, hs]
        rfl
      subst hcol
      have eT := Ex.new nT (o := .tup [.int (i : Nat), .str (colN.getD i "")])
      have e4 : ExtN H2 (upd H3 tpa (.tup [.int (i : Nat), .str (colN.getD i "")])) := e.trans (.of eT)
      have T4 := T3.ext eT
      refine ⟨tpa, _, rfl, SqT.of upd_same, rfl, _, _, rfl, _, _, rfl, rfl, ?_⟩
      dsimp only [gName, List.set]
      generalize upd H3 tpa (.tup [.int (i : Nat), .str (colN.getD i "")]) = H5 at e4 T4 ⊢
      have hpr5 := e4 _ _ hpr2 (fun _ z => by cases z)
      refine q_asgL (xs := (rowW i).map V.str) ?_ fun rw H6 nrw e6 hrw => ?_
      · have hs6 : Ev (tOp (rI0 fun i j => V.int (i - j)) (tC (.int 6)) (tVar 2)) [some (.ref pr), some (.ref pc), some (.int (i : Nat)), some (.str (colN.getD i "")), u4] H5 (.int ((6 - i : Nat) : Int)) := ev_is (ev_op ev_c (ev_var rfl) rv_I0) (by
          show V.int (6 - (i : Int)) = V.int ((6 - i : Nat) : Int)
          congr 1
          omega)
        have := el_catN (σ := [some (.ref pr), some (.ref pc), some (.int (i : Nat)), some (.str (colN.getD i "")), u4]) (H := H5) (el_catN (el_lst (vs := [.str "a"]) (ea_cons ev_c ea_nil) (by show 1 ≤ 100000; decide)) (el_to (K := K) (te := tVar 0) (ev_var rfl) hpr5 (ev_var (i := 2) rfl)) (by show 1 + _ ≤ 1000; rw [List.length_take]; show 1 + min i 6 ≤ 1000; omega)) (el_repX (x := .str "x") (n := 6 - i) (el_lst (ea_cons ev_c ea_nil) (by show 1 ≤ 100000; decide)) hs6 (by omega)) (by simp; omega)
        have er : ([.str "a"] ++ ((["no", "no", "no", "no", "no", "exact"] : List Str).map V.str).take i ++ List.replicate (6 - i) (V.str "x")) = (rowW i).map V.str := by
          unfold rowW
          simp only [List.map_append, List.map_take, List.map_replicate, List.map_cons, List.cons_append, List.nil_append]
        rw [er] at this
        exact this
      dsimp only [List.set]
      have hz : ∀ x ∈ rowW i, x.cps.size ≤ 1000 := fun x hx => Nat.le_trans (rowW_sz i hi6 x hx).1 (by decide)
      have T6 := T4.ext e6
      have e26 : ExtN H2 H6 := e4.trans (.of e6)
      have tr := try_rule (K := K) (Tl := Tl) (CR := CR) (CU := CU) (σ := [some (.ref pr), some (.ref pc), some (.int (i : Nat)), some (.str (colN.getD i "")), some (.ref rw)]) (H := H6) (ta := tLst (tCons (tVar 4) tNil)) (tb := tTup (tCons (tC (.str "stay")) (tCons (tC (.str "a")) tNil))) (rs := [some ((rowW i).map some)]) (sr := some ((["stay", "a"] : List Str).map some)) (by show 0 < 1; decide)
        (efs_one rfl fun H1 e => fv_txt (.inl (e _ _ hrw fun _ z => by cases z)) hz) (efv_tup (fun H1 e => eu_tup (vs := (["stay", "a"] : List Str).map V.str) (ea_cons ev_c (ea_cons ev_c ea_nil)) (by show 2 ≤ 100000; decide)) (by decide +kernel))
      refine tr H6 (ExtN.refl _) T6 _ fun v H7 e7 T7 ho => ?_
      have hw := whyW i hi6
      refine ⟨_, rfl, by show 3 ≤ sizeLine; decide, fun p np => ?_⟩
      have e8 := Ex.new np (o := .tup [.str "rule", .int 0, .str (colN.getD i "")])
      have od : OutAt (upd H7 p (.tup [.str "rule", .int 0, .str (colN.getD i "")])) (.ref p) [some ((rowW i).map some)] (some ((["stay", "a"] : List Str).map some)) := ⟨p, rfl, .inl ⟨0, by show 0 < 1; decide, by rw [hw]; simp, fun j hj => absurd hj (Nat.not_lt_zero _), by rw [hw]; exact upd_same⟩⟩
      have hfs : ∀ z ∈ fsR [some ((rowW i).map some)], z.2.length ≤ 900 := fun z hz => by
        have : z = (("a" : Str), ((List.map some (((["no", "no", "no", "no", "no", "exact"] : List Str).take i ++ List.replicate (6 - i) ("x" : Str)))).map (·.getD ""))) := List.mem_singleton.mp hz
        rw [this]
        show (List.map _ (List.map some _)).length ≤ 900
        rw [List.length_map, List.length_map, List.length_append, List.length_take, List.length_replicate]
        show min i 6 + (6 - i) ≤ 900
        omega
      refine ⟨v, .ref p, rfl, (ho.ex e8).same (d := 1) od hfs (by show 1 ≤ 900; decide), fun H8 e9 => ⟨true, rfl, ?_⟩⟩
      have e28 := (e26.trans e7).trans (.of (Ex.trans e8 e9))
      exact iteF ⟨_, _, _, rfl, e28, (T7.ext e8).ext e9⟩
    · rintro σ' H' ⟨u2, u3, u4, rfl, e, T'⟩
      exact k H' (ExtN.trans (.of e02) e) T'
end
end Lm

namespace Lm
open PySem L2 Evl RZ LamX
structure ReprB (mg : Str → Option Value) : Prop where
  b_repr : mg "repr" = none
def spLawT (K : PySem.W.Frag) (T1 T2 : Addr) : Sp := fun vs H Q _ => ∃ (a : Addr) (ns : List Int), vs = [.ref a] ∧ SqL K H a (ns.map V.int) ∧ ns.length ≤ 63 ∧ H T1 = some (.tbl #[]) ∧ H T2 = some (.tbl #[]) ∧ ∀ H', Q (.bl true) H'
/-! ### what stays, whatever is drawn -/
theorem Od.kpn {st : Addr} {H H' : Hp} {v : V} (e : KpN st H H') (h : Od (fun a => a ≠ st) H v) : Od (fun a => a ≠ st) H' v := h.mono fun a o b q nt => ⟨b, e _ _ b q nt⟩
theorem RwO.kpn {st : Addr} {H H' : Hp} {v : V} {r : Vw} (e : KpN st H H') (h : RwO (fun a => a ≠ st) H v r) : RwO (fun a => a ≠ st) H' v r := h.mono fun a o b q nt => ⟨b, e _ _ b q nt⟩
theorem RwsO.kpn {st : Addr} {H H' : Hp} {xs : List V} {rs : List Vw} (e : KpN st H H') (h : RwsO (fun a => a ≠ st) H xs rs) : RwsO (fun a => a ≠ st) H' xs rs := h.mono fun a o b q nt => ⟨b, e _ _ b q nt⟩
theorem Od.datK (K : PySem.W.Frag) {st : Addr} {H : Hp} {v : V} (h : Od (fun a => a ≠ st) H v) : ∃ d, (∀ H', KpN st H H' → ItD K H' v d) ∧ ShOk d 1 600 := by
  rcases h with h | ⟨a, rfl, b, h⟩
  · rcases h with ⟨s, rfl, h, h3⟩ | rfl | ⟨b, rfl⟩ | ⟨i, rfl, h⟩
    · exact ⟨.str s, fun _ _ => .inl (.str s), (ShOk.str h3).mono (by omega) (by omega)⟩
    · exact ⟨.none, fun _ _ => .inl .non, ShOk.none.mono (by omega) (by omega)⟩
    · exact ⟨.bool b, fun _ _ => .inl (.bl b), ShOk.bool.mono (by omega) (by omega)⟩
    · exact ⟨.int i, fun _ _ => .inl (.int i), (ShOk.int h).mono (by omega) (by omega)⟩
  · have da : ∀ {xs : List V}, (∀ x ∈ xs, OdF x) → ∃ ds, (∀ H', DpAll K H' xs ds) ∧ (∀ d ∈ ds, ShOk d 0 65) ∧ ds.length = xs.length := fun {xs} hx => by
      induction xs with
      | nil => exact ⟨[], fun _ => .nil, (fun _ z => by cases z), rfl⟩
      | cons x xs ih =>
        obtain ⟨ds, g1, g2, g3⟩ := ih fun y hy => hx y (List.mem_cons_of_mem _ hy)
        obtain ⟨d, h1, h2⟩ : ∃ d, (∀ H', Dp K H' x d) ∧ ShOk d 0 65 := by
          rcases hx x List.mem_cons_self with ⟨s, rfl, h, h2⟩ | rfl | ⟨b, rfl⟩ | ⟨i, rfl, h⟩
          · exact ⟨.str s, fun _ => .str s, (ShOk.str h2).mono (Nat.le_refl _) (by omega)⟩
          · exact ⟨.none, fun _ => .non, ShOk.none.mono (Nat.le_refl _) (by omega)⟩
          · exact ⟨.bool b, fun _ => .bl b, ShOk.bool.mono (Nat.le_refl _) (by omega)⟩
          · exact ⟨.int i, fun _ => .int i, ShOk.int h⟩
        exact ⟨d :: ds, fun H' => .cons (h1 H') (g1 H'), fun z hz => (List.mem_cons.mp hz).elim (fun e => e ▸ h2) (g2 z), by simp [g3]⟩
    rcases h with ⟨xs, h, l, hl⟩ | ⟨xs, h, l, hl⟩ | h
    · obtain ⟨ds, g1, g2, g3⟩ := da hl
      refine ⟨_, fun H' e => .inl (Dp.seq false (e _ _ b h fun _ z => by cases z) (g1 H')), (ShOk.seq false g2).mono (by omega) ?_⟩
      rw [g3]; omega
    · obtain ⟨ds, g1, g2, g3⟩ := da hl
      refine ⟨_, fun H' e => .inl (Dp.seq true (e _ _ b h fun _ z => by cases z) (g1 H')), (ShOk.seq true g2).mono (by omega) ?_⟩
      rw [g3]; omega
    · exact ⟨_, fun H' e => .inr ⟨a, _, _, rfl, e _ _ b h (fun _ z => by cases z), .cons (d := .str "a") rfl .nil, rfl⟩, by constructor <;> decide +kernel⟩
theorem Od.datKs (K : PySem.W.Frag) {st : Addr} {H : Hp} : ∀ {xs : List V}, (∀ x ∈ xs, Od (fun a => a ≠ st) H x) → ∃ ds, (∀ H', KpN st H H' → Paired (fun x d => ItD K H' x d) xs ds) ∧ (∀ d ∈ ds, ShOk d 1 600) ∧ ds.length = xs.length
  | [], _ => ⟨[], fun _ _ => .nil, (fun _ z => by cases z), rfl⟩
  | x :: xs, h => by
    obtain ⟨d, h1, h2⟩ := Od.datK K (h x List.mem_cons_self)
    obtain ⟨ds, g1, g2, g3⟩ := Od.datKs K (xs := xs) fun y hy => h y (List.mem_cons_of_mem _ hy)
    exact ⟨d :: ds, fun H' e => .cons (h1 H' e) (g1 H' e), fun z hz => (List.mem_cons.mp hz).elim (fun e => e ▸ h2) (g2 z), by simp [g3]⟩
theorem RwO.datK (K : PySem.W.Frag) {st : Addr} {H : Hp} {v : V} {r : Vw} (h : RwO (fun a => a ≠ st) H v r) : ∃ d, (∀ H', KpN st H H' → RowD K H' v d) ∧ ShOk d 2 13000 := by
  rcases h with ⟨a, xs, rfl, hb, hq, hl, ho, rfl⟩ | ⟨h, rfl⟩
  · obtain ⟨ds, g1, g2, g3⟩ := Od.datKs K ho
    rcases hq with hq | hq
    · exact ⟨_, fun H' e => .inr ⟨a, true, xs, ds, rfl, e _ _ hb hq (fun _ z => by cases z), g1 H' e, rfl⟩, (ShOk.seq true g2).mono (by omega) (by rw [g3]; omega)⟩
    · exact ⟨_, fun H' e => .inr ⟨a, false, xs, ds, rfl, e _ _ hb hq (fun _ z => by cases z), g1 H' e, rfl⟩, (ShOk.seq false g2).mono (by omega) (by rw [g3]; omega)⟩
  · obtain ⟨d, h1, h2⟩ := Od.datK K h.od
    exact ⟨d, fun H' e => .inl (h1 H' e), h2.mono (by omega) (by omega)⟩
theorem RwsO.datK (K : PySem.W.Frag) {st : Addr} {H : Hp} : ∀ {xs : List V} {rs : List Vw}, RwsO (fun a => a ≠ st) H xs rs → ∃ ds, (∀ H', KpN st H H' → Paired (fun x d => RowD K H' x d) xs ds) ∧ (∀ d ∈ ds, ShOk d 2 13000) ∧ ds.length = xs.length
  | [], _, _ => ⟨[], fun _ _ => .nil, (fun _ z => by cases z), rfl⟩
  | _ :: _, [], h => by cases h.1
  | x :: xs, r :: rs, h => by
    obtain ⟨d, h1, h2⟩ := RwO.datK K (h.2 0 x r rfl rfl)
    obtain ⟨ds, g1, g2, g3⟩ := RwsO.datK K (xs := xs) (rs := rs) ⟨by simpa using h.1, fun i y s q1 q2 => h.2 (i + 1) y s q1 q2⟩
    exact ⟨d :: ds, fun H' e => .cons (h1 H' e) (g1 H' e), fun z hz => (List.mem_cons.mp hz).elim (fun e => e ▸ h2) (g2 z), by simp [g3]⟩
/-- a list or a tuple -/
def HdAt (b : Bool) (H : Hp) (a : Addr) (xs : List V) : Prop := if b = true then H a = some (.lst xs) else H a = some (.tup xs)
theorem HdAt.of {H : Hp} {a : Addr} {xs : List V} (h : SeqAt H a xs) : ∃ b, HdAt b H a xs := h.elim (fun h => ⟨true, h⟩) fun h => ⟨false, h⟩
theorem HdAt.sq {b : Bool} {H : Hp} {a : Addr} {xs : List V} (h : HdAt b H a xs) : SeqAt H a xs := by
  cases b
  · exact .inr h
  · exact .inl h
theorem HdAt.kpn {b : Bool} {st : Addr} {H H' : Hp} {a : Addr} {xs : List V} (e : KpN st H H') (n : a ≠ st) (h : HdAt b H a xs) : HdAt b H' a xs := by
  cases b
  · exact e _ _ n h fun _ z => by cases z
  · exact e _ _ n h fun _ z => by cases z
theorem ev_reprR {K : PySem.W.Frag} {σ : L2.St} {H : Hp} {te : TE} {a : Addr} {b : Bool} {xs : List V} {ds : List PyData} (h : Ev te σ H (.ref a)) (ha : HdAt b H a xs) (hp : ∀ H', Ex H H' → Paired (fun x d => RowD K H' x d) xs ds) (hs : ∀ d ∈ ds, ShOk d 2 13000) (hl : ds.length ≤ 9) :
    Ev (tCB (rReprR K) (tCons te tNil)) σ H (.str (seqD' b ds).shown) := fun H1 e Q q => h H1 e _ fun H2 e2 => by
  have e12 := Ex.trans e e2
  have hsh := (ShOk.seq b hs)
  refine ⟨a, b, xs, ds, rfl, ?_, hp H2 e12, hsh.s, Nat.le_trans hsh.dep (by decide), hsh.fit ?_, q H2 e2⟩
  · cases b
    · exact e12 _ _ ha
    · exact e12 _ _ ha
  · have : ds.length * (13000 + 1) ≤ 9 * 13001 := Nat.mul_le_mul_right _ hl
    omega
/-! ### the rows of a drawn rule -/
def vwR (fs : List (Str × List Str)) : List Vw := fs.map fun z => some ((z.1 :: z.2).map some)
theorem colW : ∀ c ∈ cols, ∀ w ∈ c, w.cps.size ≤ 9 ∧ (w.cps.toList.all fun x => decide (x < 16 ^ 8)) = true := by decide +kernel
theorem odf_word {s : Str} (h : isW s = true) : OdF (.str s) := by
  unfold isW at h
  simp only [Bool.and_eq_true, decide_eq_true_eq, List.all_eq_true] at h
  refine .inl ⟨s, rfl, by omega, List.all_eq_true.mpr fun x hx => decide_eq_true ?_⟩
  have := (h.2 x hx).2
  show x < 4294967296
  omega
theorem fld_od {nm : Str} {r : List Str} (h : FldOk nm r) : ∀ x ∈ (nm :: r).map V.str, OdF x := fun x hx => by
  obtain ⟨s, hs, rfl⟩ := List.mem_map.mp hx
  rcases List.mem_cons.mp hs with rfl | hs
  · exact odf_word h.wd
  · obtain ⟨i, hi⟩ := List.mem_iff_getElem?.mp hs
    have hil := (List.getElem?_eq_some_iff.mp hi).1
    rw [h.len] at hil
    have hc : cols[i]? = some (cols[i]'hil) := List.getElem?_eq_getElem _
    have := h.ok i s _ hi hc
    obtain ⟨q1, q2⟩ := colW _ (List.mem_of_getElem? hc) s this
    exact .inl ⟨s, rfl, q1, q2⟩
theorem rw_row {B : Addr → Prop} {H : Hp} {u : Addr} {nm : Str} {r : List Str} (hb : B u) (h : SeqAt H u ((nm :: r).map V.str)) (hf : FldOk nm r) : RwO B H (.ref u) (some ((nm :: r).map some)) := .inl ⟨u, _, rfl, hb, h, by rw [List.length_map, List.length_cons, hf.len]; decide, fun x hx => .inl (fld_od hf x hx), by rw [List.map_map]; rfl⟩
theorem rws_rows {st : Addr} {H : Hp} {xs : List V} {fs : List (Str × List Str)} (hst : ∃ ys, H st = some (.lst ys)) (h : RowsT H xs fs) (hf : ∀ z ∈ fs, FldOk z.1 z.2) : RwsO (fun a => a ≠ st) H xs (vwR fs) := by
  obtain ⟨ys, hs⟩ := hst
  obtain ⟨ts, h1, h2, h3⟩ := id h
  refine ⟨by unfold vwR; rw [h1, List.length_map, List.length_map, h2], fun i x r q1 q2 => ?_⟩
  unfold vwR at q2
  rw [List.getElem?_map] at q2
  cases hz : fs[i]? with
  | none => rw [hz] at q2; cases q2
  | some z =>
    rw [hz] at q2
    cases q2
    obtain ⟨u, hu1, hu2⟩ := h.get hz
    rw [q1] at hu1
    cases hu1
    exact rw_row (ne_of hu2 hs (by intro z; cases z)) (.inr hu2) (hf z (List.mem_of_getElem? hz))
theorem nof_vw (fs : List (Str × List Str)) (n : Nat) : namesOf (vwR fs) n = (fs.take n).map fun z => z.1 := by
  unfold namesOf vwR
  rw [← List.map_take, List.map_map]
  rfl
theorem why_good {fs : List (Str × List Str)} (h : FsOk fs) : ∀ i, i < (vwR fs).length → whyP (vwR fs) i = .non := fun i hi => by
  have hif : i < fs.length := by unfold vwR at hi; rwa [List.length_map] at hi
  have l3 := h.l3
  unfold whyP
  rw [nof_vw]
  have ln : ((fs.take i).map fun z => z.1).length = i := by rw [List.length_map, List.length_take]; omega
  rw [if_neg (by rw [ln]; omega)]
  have hz : fs[i]? = some fs[i] := List.getElem?_eq_getElem hif
  have hv : (vwR fs).getD i none = some ((fs[i].1 :: fs[i].2).map some) := by
    unfold vwR
    rw [List.getD_eq_getElem?_getD, List.getElem?_map, hz]
    rfl
  rw [hv]
  have hf := h.ok fs[i] (List.getElem_mem hif)
  have hn : fs[i].1 ∉ (fs.take i).map fun z => z.1 := fun hm => by
    obtain ⟨y, hy, hyz⟩ := List.mem_map.mp hm
    obtain ⟨j, hj, hjy⟩ := List.mem_iff_getElem.mp hy
    rw [List.length_take] at hj
    rw [List.getElem_take] at hjy
    have h1 := List.pairwise_iff_getElem.mp h.nd j i (by rw [List.length_map]; omega) (by rw [List.length_map]; omega) (by omega)
    rw [List.getElem_map, List.getElem_map, hjy] at h1
    exact h1 hyz
  generalize fs[i] = z at hf hn
  show (if ((z.1 :: z.2).map some).length = 7 then (if nmB _ (some z.1) then V.str "name" else wrongW ((z.1 :: z.2).map some)) else _) = _
  rw [if_pos (by rw [List.length_map, List.length_cons, hf.len])]
  have hnb : nmB ((fs.take i).map fun z => z.1) (some z.1) = false := by
    show (!isW z.1 || decide _) = false
    rw [hf.wd, decide_eq_false hn]
    rfl
  rw [hnb, if_neg (by simp)]
  unfold wrongW
  rcases find_first (p := cb ((z.1 :: z.2).map some)) (n := 6) with ⟨q1, _⟩ | ⟨j, _, hj, hb, _⟩
  · rw [q1]
  · exfalso
    have hj6 : j < z.2.length := by rw [hf.len]; exact hj
    have hc : cols[j]? = some (cols[j]'hj) := List.getElem?_eq_getElem _
    have hw : z.2[j]? = some z.2[j] := List.getElem?_eq_getElem hj6
    have := hf.ok j _ _ hw hc
    unfold cb at hb
    rw [List.getD_eq_getElem?_getD, hc, List.getD_eq_getElem?_getD, List.getElem?_map, List.getElem?_cons_succ, hw] at hb
    have hb : (!decide (z.2[j] ∈ cols[j])) = true := hb
    rw [decide_eq_true this] at hb
    cases hb
theorem shown_good {fs : List (Str × List Str)} {wy nm : Str} {i : Nat} (h : FsOk fs) (hw : wy ∈ ways) (hi : (fs.map fun z => z.1)[i]? = some nm) : shownR (namesOf (vwR fs) (vwR fs).length) (some ([wy, nm].map some)) = true := by
  have hl : (vwR fs).length = fs.length := by unfold vwR; rw [List.length_map]
  rw [nof_vw, hl, List.take_length]
  have hm := List.mem_of_getElem? hi
  have hwd : isW nm = true := by
    obtain ⟨z, hz, rfl⟩ := List.mem_map.mp hm
    exact (h.ok z hz).wd
  show ((!(!decide (wy ∈ ways)) && isW nm) && decide (nm ∈ _)) = true
  rw [decide_eq_true hw, hwd, decide_eq_true hm]
  rfl
theorem fsR_vw (fs : List (Str × List Str)) : fsR (vwR fs) = fs := fsR_of fs
/-! ### the states of a turn -/
structure J22 (Tl : List (Addr × Str)) (st c R sp Rr : Addr) (xs : List V) (fs : List (Str × List Str)) (wy nm : Str) (i : Nat) (H : Hp) : Prop where
  S : StAt H st c
  T : Tabs Tl H
  nR : R ≠ st
  nRr : Rr ≠ st
  hR : H R = some (.lst xs)
  hRr : H Rr = some (.lst xs)
  hT : RowsT H xs fs
  ok : FsOk fs
  hs : H sp = some (.tup [.str wy, .str nm])
  hw : wy ∈ ways
  hi : (fs.map fun z => z.1)[i]? = some nm
theorem tup_kpn {st c a : Addr} {H H' : Hp} {xs : List V} (S : StAt H st c) (e : KpN st H H') (h : H a = some (.tup xs)) : H' a = some (.tup xs) := by
  obtain ⟨ys, hs⟩ := S.neL
  exact e _ _ (ne_of h hs (by intro z; cases z)) h fun _ z => by cases z
theorem J22.kpn {Tl : List (Addr × Str)} {st c R sp Rr : Addr} {xs : List V} {fs : List (Str × List Str)} {wy nm : Str} {i : Nat} {H H' : Hp} (J : J22 Tl st c R sp Rr xs fs wy nm i H) (e : KpN st H H') (S : StAt H' st c) (T : Tabs Tl H') : J22 Tl st c R sp Rr xs fs wy nm i H' :=
  ⟨S, T, J.nR, J.nRr, e.lst J.nR J.hR, e.lst J.nRr J.hRr, let ⟨ts, h1, h2, h3⟩ := J.hT; ⟨ts, h1, h2, fun j z u q1 q2 => tup_kpn J.S e (h3 j z u q1 q2)⟩, J.ok, tup_kpn J.S e J.hs, J.hw, J.hi⟩
theorem J22.kp {Tl : List (Addr × Str)} {st c R sp Rr : Addr} {xs : List V} {fs : List (Str × List Str)} {wy nm : Str} {i : Nat} {H H' : Hp} (J : J22 Tl st c R sp Rr xs fs wy nm i H) (e : Kp st H H') (S : StAt H' st c) : J22 Tl st c R sp Rr xs fs wy nm i H' := J.kpn (KpN.of e) S (Tabs_st J.T e J.S)
theorem J22.ex {Tl : List (Addr × Str)} {st c R sp Rr : Addr} {xs : List V} {fs : List (Str × List Str)} {wy nm : Str} {i : Nat} {H H' : Hp} (J : J22 Tl st c R sp Rr xs fs wy nm i H) (e : Ex H H') : J22 Tl st c R sp Rr xs fs wy nm i H' := J.kp (Kp.of e) (J.S.same e)
/-- the fields that may be wrong -/
structure JW (st W : Addr) (ys : List V) (rs : List Vw) (m : Nat) (H : Hp) : Prop where
  n : W ≠ st
  h : H W = some (.lst ys)
  R : RwsO (fun a => a ≠ st) H ys rs
  l0 : 0 < ys.length
  l4 : ys.length ≤ 4
  b : ∀ r ∈ rs, ∀ ws, r = some ws → ws.length ≤ m
theorem JW.kpn {st W : Addr} {ys : List V} {rs : List Vw} {m : Nat} {H H' : Hp} (J : JW st W ys rs m H) (e : KpN st H H') : JW st W ys rs m H' := ⟨J.n, e.lst J.n J.h, J.R.kpn e, J.l0, J.l4, J.b⟩
theorem JW.kp {st W : Addr} {ys : List V} {rs : List Vw} {m : Nat} {H H' : Hp} (J : JW st W ys rs m H) (e : Kp st H H') : JW st W ys rs m H' := J.kpn (KpN.of e)
theorem JW.ex {st W : Addr} {ys : List V} {rs : List Vw} {m : Nat} {H H' : Hp} (J : JW st W ys rs m H) (e : Ex H H') : JW st W ys rs m H' := J.kp (Kp.of e)
/-! ### the fields that are handed on to be spoilt -/
def bigV : Vw → Bool
  | some ws => decide (6 < ws.length)
  | none => false
theorem ev_if22 {σ : L2.St} {H : Hp} {ta tb : TE} {tt : TT} {b : Bool} {x : V} (h : EvT tt σ H b) (h1 : b = true → Ev ta σ H x) (h2 : b = false → Ev tb σ H x) : Ev (tIf tt ta tb) σ H x := fun H1 e Q q => h H1 e _ fun H2 e2 => by
  cases b with
  | true => exact h1 rfl H2 (Ex.trans e e2) _ fun H3 e3 => q H3 (Ex.trans e2 e3)
  | false => exact h2 rfl H2 (Ex.trans e e2) _ fun H3 e3 => q H3 (Ex.trans e2 e3)
theorem el_big {K : PySem.W.Frag} {σ : L2.St} {H : Hp} {st W R r0 : Addr} {ys xs : List V} {rs : List Vw} {rv : Vw} {m : Nat} (J : JW st W ys rs m H) (h6 : σ[6]? = some (some (.ref W))) (hw16 : ∀ v, ((wipe σ [16]).set 16 (some v))[16]? = some (some v)) (hw3 : ∀ v, ((wipe σ [16]).set 16 (some v))[3]? = some (some (.ref R))) (hR : H R = some (.lst xs)) (hx : xs[0]? = some (.ref r0)) (hr : RwO (fun a => a ≠ st) H (.ref r0) rv) :
    ∃ zs, EvL (tLc (iList K (tVar 6)) (gName 16) tYes (tIf (tAnd (tB (tCB (rIsiT K) (tCons (tVar 16) (tCons (tTup (tCons (tC (.ty "list")) (tCons (tC (.ty "tuple")) tNil))) tNil)))) (tTest (tOp (rI0 fun i j => .bl (decide (j < i))) (tCB (rLenS K) (tCons (tVar 16) tNil)) (tC (.int 6))))) (tVar 16) (tOp (rIxL K) (tVar 3) (tC (.int 0)))) [16]) σ H zs ∧ RwsO (fun a => a ≠ st) H zs (rs.map fun r => if bigV r = true then r else rv) ∧ zs.length = ys.length := by
  have hl := J.R.1
  have l4 := J.l4
  have hys : ys = (ys.zip rs).map fun z => z.1 := by rw [List.map_fst_zip (by omega)]
  refine ⟨(ys.zip rs).map fun z => if bigV z.2 = true then z.1 else .ref r0, el_mapL (f := fun z => z.1) (ev_var h6) (by rw [← hys]; exact J.h) (by rw [List.length_zip]; omega) fun z hz H1 e1 => ?_, ⟨by rw [List.length_map, List.length_map, List.length_zip]; omega, fun i x r q1 q2 => ?_⟩, by rw [List.length_map, List.length_zip]; omega⟩
  · obtain ⟨i, hi⟩ := List.mem_iff_getElem?.mp hz
    have hz2 := (List.getElem?_zip_eq_some.mp hi)
    have hrw := (J.R.2 i z.1 z.2 hz2.1 hz2.2).ex e1
    have isr := ev_isSeqO (K := K) (te := tVar 16) (ev_var (hw16 z.1)) hrw.fv
    refine ev_if22 (b := bigV z.2) ?_ (fun h => by rw [if_pos h]; exact ev_var (hw16 z.1)) fun h => by rw [if_neg (by rw [h]; simp)]; exact ev_op (ev_var (hw3 _)) ev_c (rv_ixL (SqL.of (e1 _ _ hR)) (atI_nat (j := 0) hx))
    rcases hrw with ⟨a, us, e3, _, hq, _, _, e4⟩ | ⟨_, e4⟩
    · rw [e4] at isr ⊢
      refine et_is (et_and (et_B isr) fun _ => et_test (ev_op (ev_lenQ1 (by have := hw16 z.1; rw [e3] at this ⊢; exact ev_var this) hq) ev_c rv_I0)) ?_
      show (true && decide ((6 : Int) < (us.length : Int))) = decide (6 < (us.map tx).length)
      rw [List.length_map, Bool.true_and]
      have : ((6 : Int) < (us.length : Int)) = (6 < us.length) := propext ⟨fun h => by omega, fun h => by omega⟩
      simp only [this]
    · rw [e4] at isr ⊢
      exact et_is (et_and (et_B isr) (b := false) fun z => nomatch z) rfl
  · rw [List.getElem?_map] at q1 q2
    cases hz : (ys.zip rs)[i]? with
    | none => rw [hz] at q1; cases q1
    | some z =>
      have hz2 := (List.getElem?_zip_eq_some.mp hz)
      rw [hz] at q1
      rw [hz2.2] at q2
      cases q1; cases q2
      by_cases h : bigV z.2 = true
      · dsimp only; rw [if_pos h, if_pos h]; exact J.R.2 i z.1 z.2 hz2.1 hz2.2
      · dsimp only; rw [if_neg h, if_neg h]; exact hr
end Lm

namespace Lm
open PySem L2 Evl RZ LamX
theorem rws_flds {st : Addr} {H : Hp} (hst : ∃ ys, H st = some (.lst ys)) : ∀ (vs : List V), (∀ (i : Nat) v, vs[i]? = some v → ∃ nm r u, v = V.ref u ∧ H u = some (.tup ((nm :: r).map V.str)) ∧ FldOk nm r) → ∃ rs, RwsO (fun a => a ≠ st) H vs rs ∧ ∀ r ∈ rs, ∀ ws, r = some ws → ws.length ≤ 9
  | [], _ => ⟨[], ⟨rfl, fun i x r z => by simp at z⟩, fun r z => by cases z⟩
  | v :: vs, h => by
    obtain ⟨rs, ⟨h1, h2⟩, h3⟩ := rws_flds hst vs fun i v hv => h (i + 1) v hv
    obtain ⟨nm, r, u, rfl, hu, hf⟩ := h 0 v rfl
    obtain ⟨ys, hs⟩ := hst
    have hr := rw_row (B := fun a => a ≠ st) (H := H) (u := u) (ne_of hu hs (by intro z; cases z)) (.inr hu) hf
    refine ⟨some ((nm :: r).map some) :: rs, ⟨by simp [h1], fun i x r q1 q2 => ?_⟩, fun r hr ws e => ?_⟩
    · cases i with
      | zero => cases q1; cases q2; exact hr
      | succ i => exact h2 i x r q1 q2
    · rcases List.mem_cons.mp hr with rfl | hr
      · cases e
        rw [List.length_map, List.length_cons, hf.len]
        decide
      · exact h3 r hr ws e
theorem RwsO.app {B : Addr → Prop} {H : Hp} {xs ys : List V} {rs ss : List Vw} (h : RwsO B H xs rs) (k : RwsO B H ys ss) : RwsO B H (xs ++ ys) (rs ++ ss) := ⟨by rw [List.length_append, List.length_append, h.1, k.1], fun i x r q1 q2 => by
  rcases Nat.lt_or_ge i xs.length with hi | hi
  · rw [List.getElem?_append_left hi] at q1
    rw [List.getElem?_append_left (by rw [← h.1]; exact hi)] at q2
    exact h.2 i x r q1 q2
  · rw [List.getElem?_append_right hi] at q1
    rw [List.getElem?_append_right (by rw [← h.1]; exact hi), ← h.1] at q2
    exact k.2 _ x r q1 q2⟩
section
variable {K : PySem.W.Frag} {σ : L2.St} {H : Hp} {te : TE} {st c : Addr} {n : Nat}
theorem go_slA {tt : TA} {tn : TE} {zs : List V} {Q : VK} (h : EvU (tTup tt) σ H zs) (hn : ∀ H1, Ex H H1 → Ev tn σ H1 (.int (n : Nat))) (k : ∀ q H1, Ex H H1 → H1 q = some (.tup (zs.take n)) → Q (.ref q) H1) : tSl (rSlA K) (tTup tt) tNoPart (tPart tn) σ H Q :=
  h H (Ex.refl _) _ fun p H1 np e1 hp => hn H1 e1 H1 (Ex.refl _) _ fun H2 e2 => ⟨_, rfl, p, zs, rfl, SqT.of (e2 _ _ hp), fun hf => k p H2 (Ex.trans e1 e2) (by
    have hf2 := hf.2
    rw [HT.sIx_nat] at hf2
    rw [List.take_of_length_le (by omega)]
    exact e2 _ _ hp), fun _ q nq => k q _ (Ex.trans (Ex.trans e1 e2) (Ex.new nq)) (by rw [cutV_to22]; exact upd_same)⟩
theorem go_flds {tn : TE} {Q : VK} (S : StAt H st c) (h1 : ∀ v, ((wipe σ [15]).set 15 (some v))[1]? = some (some (.ref st))) (h15 : ∀ v, ((wipe σ [15]).set 15 (some v))[15]? = some (some v)) (hn : ∀ H1, Ex H H1 → Ev tn σ H1 (.int (n : Nat))) (n3 : n ≤ 3)
    (k : ∀ D vs rs H', vs.length = n → StAt H' st c → Kp st H H' → H' D = some (.lst vs) → RwsO (fun a => a ≠ st) H' vs rs → (∀ r ∈ rs, ∀ ws, r = some ws → ws.length ≤ 9) → Q (.ref D) H') :
    tLc (iTup K (tSl (rSlA K) (tTup (tCons (tC (.str "q")) (tCons (tC (.str "qq")) (tCons (tC (.str "qqq")) tNil)))) tNoPart (tPart tn))) (gName 15) tYes (tCall spField [] E0 (tCons (tVar 1) (tCons (tVar 15) tNil))) [15] σ H Q := by
  refine go_slA (zs := (["q", "qq", "qqq"] : List Str).map V.str) (n := n) (eu_tup (ea_cons ev_c (ea_cons ev_c (ea_cons ev_c ea_nil))) (by show 3 ≤ 100000; decide)) hn fun q H7 e7 hq => ⟨q, rfl, ⟨_, SqT.of hq⟩, fun D nD => ?_⟩
  have hns : ∀ n ∈ (["q", "qq", "qqq"] : List Str), isW n = true := by decide +kernel
  have lq : (((["q", "qq", "qqq"] : List Str).map V.str).take n).length = n := by
    rw [List.length_take]
    show min n 3 = n
    omega
  have S7 := S.same e7
  refine lc_drawT (K := K) (st := st) (c := c) (fun i v H' => ∃ nm r u, v = .ref u ∧ H' u = some (.tup ((nm :: r).map V.str)) ∧ FldOk nm r) S7 nD hq (by rw [lq]; omega) (fun i v Ha Hb h e => ?_) (fun i' x H' hx S' e' _ Q' q' => ?_) fun vs H' hl hv S' e' hD => ?_
  · obtain ⟨nm, r, u, h1, h2, h3⟩ := h
    exact ⟨nm, r, u, h1, e _ _ h2 (by intro _ xs z; cases z), h3⟩
  · obtain ⟨z, hz, rfl⟩ := List.mem_map.mp (List.mem_of_mem_take (List.mem_of_getElem? hx))
    exact ⟨_, h1 _, _, h15 _, st, c, z, rfl, S', hns z hz, fun u r H7 nu S7 k7 hu hf => q' _ H7 ⟨z, r, u, rfl, hu, hf⟩ S7 k7⟩
  · rw [lq] at hl
    obtain ⟨rs2, hr2, hb2⟩ := rws_flds S'.neL vs hv
    exact k D vs rs2 H' hl S' ((Kp.of e7).trans e') hD hr2 hb2
theorem evw_newT {zs : List V} (hst : ∃ ys, H st = some (.lst ys)) (h : EvU te σ H zs) (hz : ∀ z ∈ zs, Od (fun a => a ≠ st) H z) (hl : zs.length ≤ n) (h9 : zs.length ≤ 20) : EvW st n te σ H := fun H1 e Q q => h H1 e _ fun p H2 np e2 hp => q _ H2 e2 (by
  obtain ⟨ys, hs⟩ := hst
  exact ⟨some (zs.map tx), .inl ⟨p, zs, rfl, (fun z => by subst z; rw [e _ _ hs] at np; cases np), .inr hp, h9, fun z hz' => (hz z hz').ex (Ex.trans e e2), rfl⟩, fun ws ew => by cases ew; rw [List.length_map]; exact hl⟩)
/-- a bare thing that is no list of fields -/
def Bre (B : Addr → Prop) (H : Hp) (v : V) : Prop := OdF v ∨ ∃ a, v = .ref a ∧ B a ∧ (H a = some (.lst []) ∨ H a = some (.tup []) ∨ H a = some (.dK []))
theorem Bre.kpn {H' : Hp} {v : V} (e : KpN st H H') (h : Bre (fun a => a ≠ st) H v) : Bre (fun a => a ≠ st) H' v := h.imp id fun ⟨a, e1, e2, h⟩ => ⟨a, e1, e2, by
  rcases h with h | h | h
  · exact .inl (e _ _ e2 h fun _ z => by cases z)
  · exact .inr (.inl (e _ _ e2 h fun _ z => by cases z))
  · exact .inr (.inr (e _ _ e2 h fun _ z => by cases z))⟩
theorem Bre.fs {B : Addr → Prop} {v : V} (h : Bre B H v) : ∃ o : Option (List Vw), (o = none ∨ o = some []) ∧ (∀ a : Addr, v = .ref a → ((H a = some (.lst []) ∨ H a = some (.tup [])) ↔ o = some [])) := by
  rcases h with h | ⟨a, rfl, _, h | h | h⟩
  · refine ⟨none, .inl rfl, fun a e => ?_⟩
    subst e
    rcases h with ⟨_, z, _⟩ | z | ⟨_, z⟩ | ⟨_, z, _⟩ <;> cases z
  · exact ⟨some [], .inr rfl, fun b e => by cases e; exact ⟨fun _ => rfl, fun _ => .inl h⟩⟩
  · exact ⟨some [], .inr rfl, fun b e => by cases e; exact ⟨fun _ => rfl, fun _ => .inr h⟩⟩
  · exact ⟨none, .inl rfl, fun b e => by cases e; exact ⟨fun z => by rcases z with z | z <;> (rw [h] at z; cases z), fun z => by cases z⟩⟩
theorem Bre.at_ (K : PySem.W.Frag) {v : V} (h : Bre (fun a => a ≠ st) H v) : ∃ o : Option (List Vw), (o = none ∨ o = some []) ∧ ∀ H', KpN st H H' → FsAt K H' v o := by
  rcases h with h | ⟨a, rfl, hb, h⟩
  · exact ⟨none, .inl rfl, fun H' _ => .inr ⟨noRow_T0 (B := fun _ => True) (.inl h), rfl⟩⟩
  · have nil : ∀ H' : Hp, RvAt K H' [] [] := fun H' => ⟨rfl, fun i r z => by simp at z⟩
    rcases h with h | h | h
    · exact ⟨some [], .inr rfl, fun H' e => .inl ⟨a, [], [], rfl, .inl (e _ _ hb h fun _ z => by cases z), nil H', rfl⟩⟩
    · exact ⟨some [], .inr rfl, fun H' e => .inl ⟨a, [], [], rfl, .inr (e _ _ hb h fun _ z => by cases z), nil H', rfl⟩⟩
    · exact ⟨none, .inl rfl, fun H' e => .inr ⟨⟨_, fun H2 e2 => .base (.dK (e2 _ _ (e _ _ hb h fun _ z => by cases z))), kitAny_cons (b := false) (kit_ty (by decide +kernel)) (fun _ => kitAny_cons (b := false) (kit_ty (by decide +kernel)) (fun _ => kitAny_nil) (fun z => nomatch z)) (fun z => nomatch z)⟩, rfl⟩⟩
theorem go_bare22 {Q : VK} (S : StAt H st c) (h1 : σ[1]? = some (some (.ref st))) (k : ∀ (v : V) H', StAt H' st c → Kp st H H' → Bre (fun a => a ≠ st) H' v → Q v H') :
    tCall (spOneA K) [] E0 (tCons (tVar 1) (tCons (tLst (tCons (tC .non) (tCons (tC (.int 5)) (tCons (tC (.str "ab")) (tCons tDNewK (tCons (tLst tNil) (tCons (tTup tNil) (tCons (tC (.bl true)) tNil)))))))) tNil)) σ H Q := by
  refine ⟨_, h1, fun p1 n1 => ⟨by show 0 ≤ sizeLine; decide, fun p2 n2 => ⟨by show 0 ≤ sizeLine; decide, fun p3 n3 => ?_⟩⟩⟩
  obtain ⟨sl, hsl⟩ := S.neL
  have e1 : Ex H (upd H p1 (.dK [])) := Ex.new n1
  have g1 : (upd H p1 (.dK [])) p1 = some (.dK []) := upd_same
  have m1 : p1 ≠ st := (ne_of_none hsl n1).symm
  generalize upd H p1 (.dK []) = H1 at *
  have m2 : p2 ≠ st := (ne_of_none (e1 _ _ hsl) n2).symm
  have e2 : Ex H1 (upd H1 p2 (.lst [])) := Ex.new n2
  have g2 : (upd H1 p2 (.lst [])) p2 = some (.lst []) := upd_same
  generalize upd H1 p2 (.lst []) = H2 at *
  have m3 : p3 ≠ st := (ne_of_none (e2 _ _ (e1 _ _ hsl)) n3).symm
  have e3 : Ex H2 (upd H2 p3 (.tup [])) := Ex.new n3
  have g3 : (upd H2 p3 (.tup [])) p3 = some (.tup []) := upd_same
  refine ⟨by show 7 ≤ sizeLine; decide, ?_⟩
  generalize upd H2 p3 (.tup []) = H3 at *
  intro l nl
  have E3 : Ex H H3 := Ex.trans e1 (Ex.trans e2 e3)
  have S3 := S.same E3
  refine ⟨st, c, l, _, rfl, S3.same (Ex.new nl), (S3.of_new nl).1, .inl (SqL.of upd_same), by show 0 < 7; decide, by show 7 < _; decide, fun v H' hv S' e' => k v H' S' ((Kp.of (Ex.trans E3 (Ex.new nl))).trans e') ?_⟩
  have kp : ∀ {p : Addr} {o : HO}, p ≠ st → H3 p = some o → H' p = some o := fun {p o} n h => e' _ _ n (Ex.new nl _ _ h)
  simp only [List.mem_cons, List.not_mem_nil, or_false] at hv
  rcases hv with rfl | rfl | rfl | rfl | rfl | rfl | rfl
  · exact .inl (.inr (.inl rfl))
  · exact .inl (.inr (.inr (.inr ⟨_, rfl, by decide⟩)))
  · exact .inl (.inl ⟨_, rfl, by decide +kernel, by decide +kernel⟩)
  · exact .inr ⟨_, rfl, m1, .inr (.inr (kp m1 (e3 _ _ (e2 _ _ g1))))⟩
  · exact .inr ⟨_, rfl, m2, .inl (kp m2 (e3 _ _ g2))⟩
  · exact .inr ⟨_, rfl, m3, .inr (.inl (kp m3 g3))⟩
  · exact .inl (.inr (.inr (.inl ⟨_, rfl⟩)))
end
theorem sq_asgP {te : TE} {g : TG} {tz : TS} {D : Ends} {σ : L2.St} {H : Hp} (P : V → Hp → Prop) (h : ∀ Q : VK, (∀ v H', P v H' → Q v H') → te σ H Q) (k : ∀ v H', P v H' → g v σ H' (tz D)) : tSeq (tAsg te g) tz D σ H := h _ k
theorem same_rf {H : Hp} {d : Nat} {p q : Addr} (h1 : H p = some (.tup [.str "rule", .int 0, .str "field"])) (h2 : H q = some (.tup [.str "rule", .int 0, .str "field"])) : SameV H (d + 2) (.ref p) (.ref q) := .tup h1 h2 rfl (by show 3 ≤ 40000; decide) fun i u v q1 q2 => by
  rw [q1] at q2
  cases (Option.some.inj q2)
  have := List.mem_of_getElem? q1
  simp only [List.mem_cons, List.not_mem_nil, or_false] at this
  rcases this with rfl | rfl | rfl
  · exact .str _
  · exact .int _
  · exact .str _
theorem fsR_len {rs : List Vw} (h : ∀ r ∈ rs, ∀ ws, r = some ws → ws.length ≤ 900) : ∀ z ∈ fsR rs, z.2.length ≤ 900 := fun z hz => by
  unfold fsR at hz
  obtain ⟨r, hr, rfl⟩ := List.mem_map.mp hz
  match r, hr with
  | none, _ => exact Nat.zero_le _
  | some [], _ => exact Nat.zero_le _
  | some (o :: ws), hr =>
    have := h _ hr _ rfl
    show (ws.map _).length ≤ 900
    rw [List.length_map]
    rw [List.length_cons] at this
    omega
/-- while one is refused -/
structure JL (Tl : List (Addr × Str)) (st c R sp Rr W h : Addr) (b : Bool) (xs ys hs : List V) (fs : List (Str × List Str)) (rs : List Vw) (wy nm : Str) (i : Nat) (way : V) (sr : Vw) (br : V) (Hb H : Hp) : Prop where
  J : J22 Tl st c R sp Rr xs fs wy nm i H
  W : JW st W ys rs 11 H
  nh : h ≠ st
  hd : HdAt b H h hs
  hR : RwsO (fun a => a ≠ st) H hs rs
  wy : RwO (fun a => a ≠ st) H way sr
  br : Bre (fun a => a ≠ st) H br
  kk : KpN st Hb H
theorem JL.kpn {Tl : List (Addr × Str)} {st c R sp Rr W h : Addr} {b : Bool} {xs ys hs : List V} {fs : List (Str × List Str)} {rs : List Vw} {wy nm : Str} {i : Nat} {way : V} {sr : Vw} {br : V} {Hb H H' : Hp} (L : JL Tl st c R sp Rr W h b xs ys hs fs rs wy nm i way sr br Hb H) (e : KpN st H H') (S : StAt H' st c) (T : Tabs Tl H') : JL Tl st c R sp Rr W h b xs ys hs fs rs wy nm i way sr br Hb H' :=
  ⟨L.J.kpn e S T, L.W.kpn e, L.nh, L.hd.kpn e L.nh, L.hR.kpn e, L.wy.kpn e, L.br.kpn e, L.kk.trans e⟩
section
variable {P : Program} {w : World} {K : PySem.W.Frag} {mg : Str → Option Value} {base : Heap} {f : Addr} {fd : FuncData}
abbrev s_law : Stmt := top 37
theorem sc_law : FnScope ["_law_script", "_law_state", "_law_turn", "_law_rows", "_law_shown", "_law_right", "_law_wrong_here", "_law_k", "_law_odds", "_law_way", "_law_handed_here", "_law_bare", "_law_kept", "_law_again", "_law_found", "_law_called", "_law_x"] ["_law_script"] (defScope s_law) := ⟨rfl, rfl, rfl, by decide +kernel, rfl, by decide +kernel, by decide +kernel⟩
theorem ok_law {CR CU c0 T1 T2 g fB f1 f2 f3 f4 f5 f6 f7 f8 f9 f10 g1 g2 : Addr} {fdg d1 d2 d3 d4 d5 d6 d7 d8 d9 d10 c1 c2 : FuncData} (F : L2.Fun K "law" "law" s_law f fd) (hc : fd.code = Value.ref c0) (T : Blt mg) (TR : ReprB mg)
    (Fg : L2.Fun K "_law_tried" "_law_tried" s_tried g fdg) (hbg : L2.Binds K fdg ["_law_ask"] []) (hmg : mg "_law_tried" = some (.ref g)) (TRl : ErrF2 K mg "BadRule" CU fB "index" "reason") (TB : LamX.TabB base mg c0 T2) (hmT : (T2, ql22) ∈ [(T1, qw22), (T2, ql22)]) (hu : ∀ p ∈ [(T1, qw22), (T2, ql22)], p.1 = T2 → p.2 = ql22)
    (D_fresh : DefOk P w K mg base 1 "_law_fresh" f1 d1 ["_law_script"] (spFresh K)) (D_take : DefOk P w K mg base 2 "_law_take" f2 d2 ["_law_state", "_law_many"] spTake) (D_one : DefOk P w K mg base 3 "_law_one" f3 d3 ["_law_state", "_law_things"] (spOneA K)) (D_rule : DefOk P w K mg base 5 "_law_rule" f4 d4 ["_law_state"] spRule) (D_field : DefOk P w K mg base 4 "_law_field" f5 d5 ["_law_state", "_law_called"] spField)
    (D_wrong : DefOk P w K mg base 5 "_law_wrong" f6 d6 ["_law_state", "_law_rows"] spWrong22) (D_deepL : DefOk P w K mg base 6 "_law_deep" f7 d7 ["_law_state", "_law_x"] spDeepL) (D_due : DefOk P w K mg base 3 "_law_due" f8 d8 ["_law_rows", "_law_shown"] (spDue K)) (D_same : DefOk P w K mg base 5 "_law_same" f9 d9 ["_law_found", "_law_due_here"] (spSame 5)) (D_written_right : DefOk P w K mg base 8 "_law_written_right" f10 d10 [] (spWr22 [(T1, qw22), (T2, ql22)]))
    (KX_Rule : ClsOkX P w K mg base 4 "Rule" CR g1 c1 ["self", "fields", "show"] (spRlE K CR CU)) (M_Rule_fields : MetOk P w K mg base 1 CR "fields" g2 c2 ["self"] (spRlFields CR)) : FnOkG P w K mg base CX0 10 f fd ["_law_script"] (spLawT K T1 T2) := by
  refine okCG F hc sc_law (fun vs H Q E h => ?_) (fun A hg outer s H vs Q E hr h => ?_)
  · obtain ⟨a, ns, rfl, _⟩ := h
    rfl
  · obtain ⟨a, ns, rfl, hS, hl, hT1, hT2, k⟩ := h
    have D_room : Room 4 _ := hr.mono (by decide)
    refine ⟨_, (pss_cons (ps_set (i := 1) sc_law.nd rfl (by first | exact Or.inl rfl | exact Or.inr rfl) (pe_d D_fresh (hr.mono (by decide)) (pa_cons (pv 0) pa_nil)))
        (pss_cons (ps_if (pt_not (pt_val (pe_d0 D_written_right (hr.mono (by decide))))) (pss_one (ps_ret pe_bl)) pss_nil)
        (pss_cons (ps_for PassesOwn.never rfl (pi_range1 rfl T.b_range (pa_cons pe_int pa_nil)) (pg_name (i := 2) sc_law.nd rfl (by first | exact Or.inl rfl | exact Or.inr rfl)) (pss_cons (ps_asg (pe_d D_rule (hr.mono (by decide)) (pa_cons (pv 1) pa_nil)) (pg_tup rfl (pgs_cons (pg_name (i := 3) sc_law.nd rfl (by first | exact Or.inl rfl | exact Or.inr rfl)) (pgs_cons (pg_name (i := 4) sc_law.nd rfl (by first | exact Or.inl rfl | exact Or.inr rfl)) pgs_nil))))
        (pss_cons (ps_asg (pe_tup (pa_cons (pe_callTy call_list_of (by rfl) T.b_list (by decide +kernel) (pa_cons (pv 3) pa_nil)) (pa_cons (pe_callTy call_list_of (by rfl) T.b_list (by decide +kernel) (pa_cons (pv 3) pa_nil)) pa_nil))) (pg_tup rfl (pgs_cons (pg_name (i := 5) sc_law.nd rfl (by first | exact Or.inl rfl | exact Or.inr rfl)) (pgs_cons (pg_name (i := 6) sc_law.nd rfl (by first | exact Or.inl rfl | exact Or.inr rfl)) pgs_nil))))
        (Evl.pss_cut (ps_if (pt_cmpR op_eq (pe_d D_take (hr.mono (by decide)) (pa_cons (pv 1) (pa_cons pe_int pa_nil))) pe_int (nomark _)) (pss_one (ps_set (i := 6) sc_law.nd rfl (by first | exact Or.inl rfl | exact Or.inr rfl) (pe_op op_cat (pv 6) (pe_lc (own := [("_law_called", 15)]) (g := gName 15) (tt := tYes) (te := (tCall spField [] E0 (tCons (tVar 1) (tCons (tVar 15) tNil)))) rfl sc_law.nd (pi_tup (pe_slice sl_tupA (pe_tup (pa_cons pe_str (pa_cons pe_str (pa_cons pe_str pa_nil)))) po_none (po_some (pe_op op_sub pe_int (pe_callB call_len_seq (by rfl) T.b_len PySem.boot_len (pa_cons (pv 6) pa_nil)))))) (blkOk_by (own := [("_law_called", 15)]) (by kernel_rfl)) (fun _ _ _ _ _ => (pg_name (i := 15) sc_law.nd rfl (by first | exact Or.inl rfl | exact Or.inr rfl))) (fun _ _ _ _ _ => pts_nil) (fun _ _ _ _ _ => by exact (pe_d D_field (hr.mono (by decide)) (pa_cons (pv 1) (pa_cons (pv 15) pa_nil)))))))) pss_nil)
        (pss_cons (ps_for PassesOwn.never rfl (pi_range1 rfl T.b_range (pa_cons (pe_d D_take (hr.mono (by decide)) (pa_cons (pv 1) (pa_cons pe_int pa_nil))) pa_nil)) (pg_name (i := 7) sc_law.nd rfl (by first | exact Or.inl rfl | exact Or.inr rfl)) (pss_one (ps_set (i := 6) sc_law.nd rfl (by first | exact Or.inl rfl | exact Or.inr rfl) (pe_d D_wrong (hr.mono (by decide)) (by exact (pa_cons (pv 1) (pa_cons (pe_lc (own := [("_law_x", 16)]) (g := gName 16) (tt := tYes) (te := (tIf (tAnd (tB (tCB (rIsiT K) (tCons (tVar 16) (tCons (tTup (tCons (tC (.ty "list")) (tCons (tC (.ty "tuple")) tNil))) tNil)))) (tTest (tOp (rI0 fun i j => .bl (decide (j < i))) (tCB (Evl.rLenS K) (tCons (tVar 16) tNil)) (tC (.int 6))))) (tVar 16) (tOp (rIxL K) (tVar 3) (tC (.int 0))))) rfl sc_law.nd (pi_list (pv 6)) (blkOk_by (own := [("_law_x", 16)]) (by kernel_rfl)) (fun _ _ _ _ _ => (pg_name (i := 16) sc_law.nd rfl (by first | exact Or.inl rfl | exact Or.inr rfl))) (fun _ _ _ _ _ => pts_nil) (fun _ _ _ _ _ => by exact (pe_ifExp (PW.pt (pw_and (pt_val (pe_callB call_isiT (by rfl) T.b_isinstance (by decide +kernel) (pa_cons (pv 16) (pa_cons (pe_tup (pa_cons (pe_bltn (v := .ty "list") (u := .type "list") (by rfl) T.b_list (by decide +kernel) rfl) (pa_cons (pe_bltn (v := .ty "tuple") (u := .type "tuple") (by rfl) T.b_tuple (by decide +kernel) rfl) pa_nil))) pa_nil)))) (pw_and1 (pt_cmpR op_gt (pe_callB call_len_seq (by rfl) T.b_len PySem.boot_len (pa_cons (pv 16) pa_nil)) pe_int (nomark _))))) (pv 16) (pe_ix ix_list (pv 3) pe_int (fun _ _ => rfl))))) pa_nil)))))))
        (pss_cons (ps_set (i := 8) sc_law.nd rfl (by first | exact Or.inl rfl | exact Or.inr rfl) (pe_lst (pa_cons pe_non (pa_cons pe_str (pa_cons (pe_tup (pa_cons pe_str pa_nil)) (pa_cons (pe_tup (pa_cons pe_str (pa_cons pe_str pa_nil))) (pa_cons (pe_tup (pa_cons pe_str (pa_cons (pe_ix ix_tup (pv 4) pe_int (fun _ _ => rfl)) pa_nil))) (pa_cons (pe_tup (pa_cons (pe_ix ix_tup (pv 4) pe_int (fun _ _ => rfl)) (pa_cons pe_str pa_nil))) (pa_cons (pe_lst (pa_cons pe_non (pa_cons pe_int pa_nil))) pa_nil)))))))))
        (pss_cons (ps_set (i := 9) sc_law.nd rfl (by first | exact Or.inl rfl | exact Or.inr rfl) (pe_ifExp (pt_cmpR op_eq (pe_d D_take (hr.mono (by decide)) (pa_cons (pv 1) (pa_cons pe_int pa_nil))) pe_int (nomark _)) (pe_d D_one (hr.mono (by decide)) (pa_cons (pv 1) (pa_cons (pv 8) pa_nil))) (pv 4)))
        (pss_cons (ps_asg (pe_tup (pa_cons (pe_d D_deepL (hr.mono (by decide)) (pa_cons (pv 1) (pa_cons (pv 6) pa_nil))) (pa_cons (pe_d D_one (hr.mono (by decide)) (pa_cons (pv 1) (pa_cons (pe_lst (pa_cons pe_non (pa_cons pe_int (pa_cons pe_str (pa_cons pe_dnewK (pa_cons (pe_lst pa_nil) (pa_cons (pe_tup pa_nil) (pa_cons pe_bl pa_nil)))))))) pa_nil))) pa_nil))) (pg_tup rfl (pgs_cons (pg_name (i := 10) sc_law.nd rfl (by first | exact Or.inl rfl | exact Or.inr rfl)) (pgs_cons (pg_name (i := 11) sc_law.nd rfl (by first | exact Or.inl rfl | exact Or.inr rfl)) pgs_nil))))
        (pss_cons (ps_set (i := 12) sc_law.nd rfl (by first | exact Or.inl rfl | exact Or.inr rfl) (pe_callB (cr_reprR hg hr.units) (by rfl) TR.b_repr (by decide +kernel) (pa_cons (pv 10) pa_nil)))
        (pss_cons (ps_for PassesOwn.never rfl (pi_range1 rfl T.b_range (pa_cons pe_int pa_nil)) (pg_name (i := 13) sc_law.nd rfl (by first | exact Or.inl rfl | exact Or.inr rfl)) (pss_cons (ps_set (i := 14) sc_law.nd rfl (by first | exact Or.inl rfl | exact Or.inr rfl) (pe_lst (pa_cons (pe_tried (k := 5) Fg hbg hmg TRl M_Rule_fields TB rfl hmT hu (by decide) (hr.mono (by decide)) (fun A outer s H E f c2 hr2 => by exact (pe_mkL KX_Rule (hr2.mono (by decide)) (pa_cons (pv 10) (pa_cons (pv 9) pa_nil)))) (LamX.lamS_by (by kernel_rfl))) pa_nil)))
        (pss_cons (ps_expr (pe_bm PySem.F.plainAttrs_list PySem.F.slot_list_append PySem.F.type_list_append mt_append (pv 14) (pa_cons (pe_tried (k := 5) Fg hbg hmg TRl M_Rule_fields TB rfl hmT hu (by decide) (hr.mono (by decide)) (fun A outer s H E f c2 hr2 => by exact (pe_mkL KX_Rule (hr2.mono (by decide)) (pa_cons (pv 11) (pa_cons (pv 9) pa_nil)))) (LamX.lamS_by (by kernel_rfl))) pa_nil)))
        (pss_one (ps_if (PW.pt (pw_or (pt_not (pt_val (pe_d D_same (hr.mono (by decide)) (pa_cons (pv 14) (pa_cons (pe_lst (pa_cons (pe_d D_due (hr.mono (by decide)) (pa_cons (pv 6) (pa_cons (pv 9) pa_nil))) (pa_cons (pe_tup (pa_cons pe_str (pa_cons pe_int (pa_cons pe_str pa_nil)))) pa_nil))) pa_nil))))) (pw_or1 (pt_cmpR op_ne (pe_callB (cr_reprR hg hr.units) (by rfl) TR.b_repr (by decide +kernel) (pa_cons (pv 10) pa_nil)) (pv 12) (nomark _))))) (pss_one (ps_ret pe_bl)) pss_nil)))))
        (pss_one (ps_if (pt_not (pt_val (pe_d D_same (hr.mono (by decide)) (pa_cons (pe_tried (k := 5) Fg hbg hmg TRl M_Rule_fields TB rfl hmT hu (by decide) (hr.mono (by decide)) (fun A outer s H E f c2 hr2 => by exact (pe_mkL KX_Rule (hr2.mono (by decide)) (pa_cons (pv 5) (pa_cons (pv 4) pa_nil)))) (LamX.lamS_by (by kernel_rfl))) (pa_cons (pe_tup (pa_cons pe_str (pa_cons (pv 3) pa_nil))) pa_nil))))) (pss_one (ps_ret pe_bl)) pss_nil))))))))))))
        (pss_one (ps_ret pe_bl))))), ?_⟩
    refine ⟨_, rfl, a, ns, rfl, hS, hl, fun st c H0 nst nc e0 S0 => ?_⟩
    have TS0 : Tabs [(T1, qw22), (T2, ql22)] H0 := fun p hp => by
      simp only [List.mem_cons, List.not_mem_nil, or_false] at hp
      rcases hp with rfl | rfl
      · exact TabS.nil (e0 _ _ hT1)
      · exact TabS.nil (e0 _ _ hT2)
    refine ⟨rfl, TS0, fun H1 e1 TS1 => ⟨true, rfl, iteF ?_⟩⟩
    have S1 := S0.extn e1
    refine ⟨_, rfl, by decide, by decide, for_range (lo := 0) (n := 10) (fun i σ' H' => ∃ v2 v3 v4 v5 v6 v7 v8 v9 v10 v11 v12 v13 v14 v15 v16 : Option V, σ' = [some (.ref a), some (.ref st), v2, v3, v4, v5, v6, v7, v8, v9, v10, v11, v12, v13, v14, v15, v16] ∧ StAt H' st c ∧ Tabs [(T1, qw22), (T2, ql22)] H')
      ⟨none, none, none, none, none, none, none, none, none, none, none, none, none, none, none, rfl, S1, TS1⟩ ?_ ?_⟩
    · clear S1 TS1 e1 TS0 S0 hT1 hT2 e0 nst nc
      rintro i σ' H hi10 ⟨v2, v3, v4, v5, v6, v7, v8, v9, v10, v11, v12, v13, v14, v15, v16, rfl, S, TS⟩
      dsimp only [gName, List.set]
      refine ⟨_, rfl, st, c, rfl, S, fun t R sp xs fs wy nm i0 H1 nt S1 k1 ht nR hR hT hok hs hw hi hmem => ⟨t, _, rfl, SqT.of ht, rfl, _, _, rfl, _, _, rfl, rfl, ?_⟩⟩
      have TS1 := Tabs_st TS k1 S
      have nRs : R ≠ st := by
        obtain ⟨ys, hst⟩ := S.neL
        exact (ne_of_none hst nR).symm
      dsimp only [gName, List.set]
      refine ⟨_, rfl, R, xs, rfl, .inl (SqL.of hR), fun Rr nRr => ⟨_, rfl, R, xs, rfl, .inl (SqL.of (Ex.new nRr _ _ hR)), fun W nW => ⟨by show 2 ≤ sizeLine; decide, fun t2 nt2 => ⟨t2, _, rfl, SqT.of upd_same, rfl, _, _, rfl, _, _, rfl, rfl, ?_⟩⟩⟩⟩
      have x2 := Ex.new nRr (o := .lst xs)
      have hRr2 : (upd H1 Rr (.lst xs)) Rr = some (.lst xs) := upd_same
      have bRr : Rr ≠ st := (S1.of_new nRr).1
      have S2 := S1.same x2
      generalize upd H1 Rr (.lst xs) = H2 at *
      have x3 := Ex.new nW (o := .lst xs)
      have hW3 : (upd H2 W (.lst xs)) W = some (.lst xs) := upd_same
      have bW : W ≠ st := (S2.of_new nW).1
      generalize upd H2 W (.lst xs) = H3 at *
      have x4 := Ex.new nt2 (o := .tup [.ref Rr, .ref W])
      have x14 := Ex.trans x2 (Ex.trans x3 x4)
      have x34 := Ex.trans x3 x4
      have hW4 := x4 _ _ hW3
      have hRr4 := x34 _ _ hRr2
      generalize upd H3 t2 (.tup [.ref Rr, .ref W]) = H4 at *
      have J4 : J22 [(T1, qw22), (T2, ql22)] st c R sp Rr xs fs wy nm i0 H4 := ⟨S1.same x14, TS1.ext x14, nRs, bRr, x14 _ _ hR, hRr4, hT.same x14, hok, x14 _ _ hs, hw, hi⟩
      have lfs : xs.length = fs.length := by obtain ⟨ts, q1, q2, _⟩ := hT; rw [q1, List.length_map, q2]
      have l0 := hok.l0
      have l3 := hok.l3
      have JW4 : JW st W xs (vwR fs) 9 H4 := ⟨bW, hW4, rws_rows J4.S.neL J4.hT hok.ok, by omega, by omega, fun r hr ws e => by
        unfold vwR at hr
        obtain ⟨z, hz, rfl⟩ := List.mem_map.mp hr
        cases e
        rw [List.length_map, List.length_cons, (hok.ok z hz).len]
        decide⟩
      clear x14 x34 x4 x3 x2 hW4 hRr4 hW3 hRr2 S2 TS1 S1 k1 ht hR hT hs hmem nR nt S TS nt2 nW nRr bW bRr nRs
      dsimp only [gName, List.set]
      refine q_cut (M := fun σ' H' => ∃ (W : Addr) (ys : List V) (rs : List Vw) (v15 : Option V), σ' = [some (.ref a), some (.ref st), some (.int ((0 : Int) + (i : Int))), some (.ref R), some (.ref sp), some (.ref Rr), some (.ref W), v7, v8, v9, v10, v11, v12, v13, v14, v15, v16] ∧ J22 [(T1, qw22), (T2, ql22)] st c R sp Rr xs fs wy nm i0 H' ∧ JW st W ys rs 9 H') ?_ ?_
      · refine ⟨_, rfl, st, c, 5, rfl, J4.S, by decide, by decide, fun d H5 d0 d5 S5 k5 => ⟨rfl, _, rfl, ite2 (fun _ => ?_) (fun _ => ?_)⟩⟩
        rotate_left
        · exact ⟨W, xs, vwR fs, _, rfl, J4.kp k5 S5, JW4.kp k5⟩
        have J5 := J4.kp k5 S5
        have JW5 := JW4.kp k5
        have hn : Ev (tOp (rI0 fun i j => V.int (i - j)) (tC (.int 4)) (tCB (rLenS K) (tCons (tVar 6) tNil))) [some (.ref a), some (.ref st), some (.int ((0 : Int) + (i : Int))), some (.ref R), some (.ref sp), some (.ref Rr), some (.ref W), v7, v8, v9, v10, v11, v12, v13, v14, v15, v16] H5 (.int ((4 - xs.length : Nat) : Int)) := ev_is (ev_op ev_c (ev_lenL (ev_var rfl) JW5.h) rv_I0) (by
          show V.int (4 - (xs.length : Int)) = V.int ((4 - xs.length : Nat) : Int)
          congr 1
          omega)
        refine ⟨_, rfl, go_flds (K := K) (n := 4 - xs.length) J5.S (fun v => rfl) (fun v => rfl) (fun H1 e1 => fun H2 e2 => hn H2 (Ex.trans e1 e2)) (by omega) fun D vs rs2 H' hl S' k' hD hr2 hb2 => ?_⟩
        have JW' := JW5.kp k'
        have J' := J5.kp k' S'
        refine ⟨W, D, xs, vs, rfl, rfl, JW'.h, hD, sz_of (by omega), fun t nt => ?_⟩
        have e8 := Ex.new nt (o := .lst (xs ++ vs))
        have nts : t ≠ st := (S'.of_new nt).1
        exact ⟨t, _, _, _, rfl, J'.ex e8, nts, upd_same, ((JW'.R.app hr2).ex e8), by rw [List.length_append]; omega, by rw [List.length_append]; omega, fun r hr ws e => (List.mem_append.mp hr).elim (fun h => JW'.b r h ws e) fun h => hb2 r h ws e⟩
      clear JW4 J4 H4 W
      rintro σ' H ⟨W, ys, rs, v15, rfl, J, JW1⟩
      obtain ⟨z0, hz0⟩ : ∃ z, fs[0]? = some z := ⟨_, List.getElem?_eq_getElem (by omega)⟩
      obtain ⟨r0, hx0, _⟩ := J.hT.get hz0
      have hv0 : (vwR fs)[0]? = some (some ((z0.1 :: z0.2).map some)) := by unfold vwR; rw [List.getElem?_map, hz0]; rfl
      have l7 : ((z0.1 :: z0.2).map some).length = 7 := by rw [List.length_map, List.length_cons, (hok.ok z0 (List.mem_of_getElem? hz0)).len]
      refine ⟨_, rfl, st, c, 3, rfl, J.S, by decide, by decide, fun d H1 d0 d3 S1 k1 => ⟨_, rfl, by omega, by omega, for_range (lo := 0) (n := d.toNat) (fun j σ' H' => ∃ (W : Addr) (ys : List V) (rs : List Vw) (v7 v15 v16 : Option V), σ' = [some (.ref a), some (.ref st), some (.int ((0 : Int) + (i : Int))), some (.ref R), some (.ref sp), some (.ref Rr), some (.ref W), v7, v8, v9, v10, v11, v12, v13, v14, v15, v16] ∧ J22 [(T1, qw22), (T2, ql22)] st c R sp Rr xs fs wy nm i0 H' ∧ JW st W ys rs (9 + j) H')
        ⟨W, ys, rs, v7, v15, v16, rfl, J.kp k1 S1, JW1.kp k1⟩ ?_ ?_⟩⟩
      · clear JW1 J k1 S1 H1 v15 v16 v7 W ys rs
        rintro j σ' H hj ⟨W, ys, rs, v7, v15, v16, rfl, J, Jw⟩
        dsimp only [gName, List.set]
        have hr0 := (rws_rows J.S.neL J.hT hok.ok).2 0 _ _ hx0 hv0
        obtain ⟨zs, hel, hz, lz⟩ := el_big (K := K) (σ := [some (.ref a), some (.ref st), some (.int ((0 : Int) + (i : Int))), some (.ref R), some (.ref sp), some (.ref Rr), some (.ref W), some (.int ((0 : Int) + (j : Int))), v8, v9, v10, v11, v12, v13, v14, v15, v16]) Jw rfl (fun v => rfl) (fun v => rfl) J.hR hx0 hr0
        have q0 := Jw.l0
        have q4 := Jw.l4
        refine ⟨_, rfl, hel H (Ex.refl _) _ fun p H2 np e2 hp => ⟨st, c, p, zs, _, 9 + j, rfl, J.S.same e2, ?_, hp, hz.ex e2, by omega, by omega, by omega, by omega, fun r hr => ?_, fun p' ys' rs' H3 np' S3 k3 hp' lys hR' hb' => ?_⟩⟩
        · obtain ⟨sl, hsl⟩ := J.S.neL
          exact (ne_of_none hsl np).symm
        · obtain ⟨r1, hr1, rfl⟩ := List.mem_map.mp hr
          by_cases hb : bigV r1 = true
          · rw [if_pos hb]
            cases r1 with
            | none => cases hb
            | some ws => exact ⟨ws, rfl, of_decide_eq_true hb, Jw.b _ hr1 ws rfl⟩
          · rw [if_neg hb]
            exact ⟨_, rfl, by omega, by omega⟩
        · have k23 : Kp st H H3 := (Kp.of e2).trans k3
          have np0 : p' ≠ st := by
            obtain ⟨sl, hsl⟩ := (J.S.same e2).neL
            exact (ne_of_none hsl np').symm
          exact ⟨p', ys', rs', _, _, _, rfl, J.kp k23 S3, np0, hp', hR', by omega, by omega, fun r hr ws e => Nat.le_trans (hb' r hr ws e) (by omega)⟩
      clear JW1 J k1 S1 H1 v15 v16 v7 W ys rs
      rintro σ' H ⟨W, ys, rs, v7, v15, v16, rfl, J, Jw0⟩
      have Jw : JW st W ys rs 11 H := ⟨Jw0.n, Jw0.h, Jw0.R, Jw0.l0, Jw0.l4, fun r hr ws e => Nat.le_trans (Jw0.b r hr ws e) (by omega)⟩
      clear Jw0 d0 d3 d
      dsimp only [gName, List.set]
      -- the odd things to be shown
      have lit : ∀ (s : Str), s.cps.size ≤ 9 → (s.cps.toList.all fun c => decide (c < 16 ^ 8)) = true → Od (fun a => a ≠ st) H (.str s) := fun s h1 h2 => odf_lit h1 h2
      have nmo : Od (fun a => a ≠ st) H (.str nm) := by
        obtain ⟨z, hz, rfl⟩ := List.mem_map.mp (List.mem_of_getElem? hi)
        exact .inl (odf_word (hok.ok z hz).wd)
      have wyo : Od (fun a => a ≠ st) H (.str wy) := by
        have : ∀ y ∈ ways, y.cps.size ≤ 9 ∧ (y.cps.toList.all fun c => decide (c < 16 ^ 8)) = true := by decide +kernel
        exact lit _ (this wy hw).1 (this wy hw).2
      have s1 : Ev (tOp (rIxT K) (tVar 4) (tC (.int 1))) [some (.ref a), some (.ref st), some (.int ((0 : Int) + (i : Int))), some (.ref R), some (.ref sp), some (.ref Rr), some (.ref W), v7, v8, v9, v10, v11, v12, v13, v14, v15, v16] H (.str nm) := ev_op (ev_var rfl) ev_c (rv_ixT (SqT.of J.hs) (atI_nat (j := 1) rfl))
      have ows : EvWs st 20 (tCons (tC .non) (tCons (tC (.str "show")) (tCons (tTup (tCons (tC (.str "stay")) tNil)) (tCons (tTup (tCons (tC (.str "stay")) (tCons (tC (.str "no")) tNil))) (tCons (tTup (tCons (tC (.str "way")) (tCons (tOp (rIxT K) (tVar 4) (tC (.int 1))) tNil))) (tCons (tTup (tCons (tOp (rIxT K) (tVar 4) (tC (.int 1))) (tCons (tC (.str "stay")) tNil))) (tCons (tLst (tCons (tC .non) (tCons (tC (.int 1)) tNil))) tNil))))))) [some (.ref a), some (.ref st), some (.int ((0 : Int) + (i : Int))), some (.ref R), some (.ref sp), some (.ref Rr), some (.ref W), v7, v8, v9, v10, v11, v12, v13, v14, v15, v16] H 7 := by
        have two : ∀ (x y : V), Od (fun a => a ≠ st) H x → Od (fun a => a ≠ st) H y → ∀ z ∈ [x, y], Od (fun a => a ≠ st) H z := fun x y hx hy z hz => by
          simp only [List.mem_cons, List.not_mem_nil, or_false] at hz
          rcases hz with rfl | rfl
          · exact hx
          · exact hy
        have stay := lit "stay" (by decide +kernel) (by decide +kernel)
        refine evw_cons (evw_v ev_c (Way.of_od (by decide) (.inl (.inr (.inl rfl))))) (evw_cons (evw_v ev_c (Way.of_od (by decide) (lit "show" (by decide +kernel) (by decide +kernel)))) (evw_cons ?_ (evw_cons ?_ (evw_cons ?_ (evw_cons ?_ (evw_cons ?_ evw_nil))))))
        · exact evw_newT J.S.neL (eu_tup (vs := [.str "stay"]) (ea_cons ev_c ea_nil) (by show 1 ≤ 100000; decide)) (fun z hz => by rw [List.mem_singleton.mp hz]; exact stay) (by show 1 ≤ 20; decide) (by show 1 ≤ 20; decide)
        · exact evw_newT J.S.neL (eu_tup (vs := [.str "stay", .str "no"]) (ea_cons ev_c (ea_cons ev_c ea_nil)) (by show 2 ≤ 100000; decide)) (two _ _ stay (lit "no" (by decide +kernel) (by decide +kernel))) (by show 2 ≤ 20; decide) (by show 2 ≤ 20; decide)
        · exact evw_newT J.S.neL (eu_tup (vs := [.str "way", .str nm]) (ea_cons ev_c (ea_cons s1 ea_nil)) (by show 2 ≤ 100000; decide)) (two _ _ (lit "way" (by decide +kernel) (by decide +kernel)) nmo) (by show 2 ≤ 20; decide) (by show 2 ≤ 20; decide)
        · exact evw_newT J.S.neL (eu_tup (vs := [.str nm, .str "stay"]) (ea_cons s1 (ea_cons ev_c ea_nil)) (by show 2 ≤ 100000; decide)) (two _ _ nmo stay) (by show 2 ≤ 20; decide) (by show 2 ≤ 20; decide)
        · exact evw_new J.S.neL (el_lst (vs := [.non, .int 1]) (ea_cons ev_c (ea_cons ev_c ea_nil)) (by show 2 ≤ 100000; decide)) (two _ _ (.inl (.inr (.inl rfl))) (.inl (.inr (.inr (.inr ⟨1, rfl, by decide⟩))))) (by show 2 ≤ 20; decide) (by show 2 ≤ 20; decide)
      refine sq_go1 (ows H (Ex.refl _) _ fun os H1 e1 los hos => ⟨by rw [los]; decide, fun O nO => ?_⟩)
      have e2 := Ex.new nO (o := .lst os)
      have hO : (upd H1 O (.lst os)) O = some (.lst os) := upd_same
      have nOs : O ≠ st := ((J.S.same e1).of_new nO).1
      have hos2 : ∀ v ∈ os, Way st 20 (upd H1 O (.lst os)) v := fun v hv => (hos v hv).ex e2
      have J2 := (J.ex e1).ex e2
      have Jw2 := (Jw.ex e1).ex e2
      generalize upd H1 O (.lst os) = H2 at *
      clear J Jw ows s1 lit nmo wyo e1 e2 hos nO
      dsimp only [gName, List.set]
      have spn : ∀ {H' : Hp}, J22 [(T1, qw22), (T2, ql22)] st c R sp Rr xs fs wy nm i0 H' → RwO (fun a => a ≠ st) H' (.ref sp) (some ([wy, nm].map some)) := fun {H'} J => by
        obtain ⟨sl, hsl⟩ := J.S.neL
        refine .inl ⟨sp, [.str wy, .str nm], rfl, ne_of J.hs hsl (by intro z; cases z), .inr J.hs, by show 2 ≤ 20; decide, fun x hx => ?_, rfl⟩
        simp only [List.mem_cons, List.not_mem_nil, or_false] at hx
        rcases hx with rfl | rfl
        · have : ∀ y ∈ ways, y.cps.size ≤ 9 ∧ (y.cps.toList.all fun c => decide (c < 16 ^ 8)) = true := by decide +kernel
          exact odf_lit (this _ hw).1 (this _ hw).2
        · obtain ⟨z, hz, rfl⟩ := List.mem_map.mp (List.mem_of_getElem? hi)
          exact .inl (odf_word (hok.ok z hz).wd)
      refine sq_asgP (fun y H3 => StAt H3 st c ∧ Kp st H2 H3 ∧ ∃ sr, RwO (fun a => a ≠ st) H3 y sr) (fun Q q => ⟨_, rfl, st, c, 3, rfl, J2.S, by decide, by decide, fun d H3 d0 d3 S3 k3 => ⟨rfl, _, rfl, ite2 (fun _ => ?_) (fun _ => ?_)⟩⟩) fun way H3 ⟨S3, k3, sr, hsr⟩ => ?_
      · refine ⟨_, rfl, _, rfl, st, c, O, os, rfl, S3, nOs, .inl (SqL.of (k3 _ _ nOs hO)), by omega, by omega, fun v H4 hv S4 k4 => q v H4 ⟨S4, k3.trans k4, ?_⟩⟩
        obtain ⟨r, hr, _⟩ := ((hos2 v hv).kp k3).kp k4
        exact ⟨r, hr⟩
      · exact ⟨_, rfl, q _ H3 ⟨S3, k3, _, spn (J2.kp k3 S3)⟩⟩
      have J3 := J2.kp k3 S3
      have Jw3 := Jw2.kp k3
      clear J2 Jw2 k3 S3 hO hos2 nOs los
      have w4 := Jw3.l4
      have w0 := Jw3.l0
      dsimp only [gName, List.set]
      refine ⟨_, rfl, _, rfl, st, c, W, ys, rs, rfl, J3.S, Jw3.n, Jw3.h, Jw3.R, by omega, fun h hs H4 nh S4 k4 hh hR4 => go_bare22 S4 rfl fun br H5 S5 k5 hbr => ⟨by show 2 ≤ sizeLine; decide, fun tq ntq => ⟨tq, _, rfl, SqT.of upd_same, rfl, _, _, rfl, _, _, rfl, rfl, ?_⟩⟩⟩
      obtain ⟨sl, hsl⟩ := J3.S.neL
      have nhs : h ≠ st := (ne_of_none hsl nh).symm
      have hR4' : RwsO (fun a => a ≠ st) H4 hs rs := hR4.mono fun a o b q _ => ⟨b.ne hsl, q⟩
      obtain ⟨b, hd4⟩ := HdAt.of hh
      have e6 := Ex.new ntq (o := .tup [.ref h, br])
      have k56 : KpN st H4 (upd H5 tq (.tup [.ref h, br])) := (KpN.of k5).trans (KpN.of (Kp.of e6))
      have J6 := ((J3.kp k4 S4).kp k5 S5).ex e6
      have Jw6 := ((Jw3.kp k4).kp k5).ex e6
      have hd6 := hd4.kpn k56 nhs
      have hR6 := hR4'.kpn k56
      have hsr6 := ((hsr.kp k4).kp k5).ex e6
      have hbr6 := hbr.kpn (KpN.of (Kp.of e6))
      generalize upd H5 tq (.tup [.ref h, br]) = H6 at *
      clear J3 Jw3 hsl hd4 hR4 hR4' hh hsr hbr k56 e6 k5 k4 S4 S5 nh ntq
      obtain ⟨ds, hpd, hsh, hds⟩ := RwsO.datK K hR6
      have lhs := hR6.1
      have lys := Jw6.R.1
      dsimp only [gName, List.set]
      refine q_asg (ev_reprR (ev_var rfl) hd6 (fun H' e => hpd H' (KpN.of (Kp.of e))) hsh (by omega)) fun H7 e7 => ?_
      have k67 : KpN st H6 H7 := KpN.of (Kp.of e7)
      have JL7 : JL [(T1, qw22), (T2, ql22)] st c R sp Rr W h b xs ys hs fs rs wy nm i0 way sr br H6 H7 := ⟨J6.ex e7, Jw6.ex e7, nhs, hd6.kpn k67 nhs, hR6.kpn k67, hsr6.kpn k67, hbr6.kpn k67, k67⟩
      clear J6 Jw6 hd6 hR6 hsr6 hbr6 k67 e7
      dsimp only [List.set]
      refine ⟨_, rfl, by decide, by decide, for_range (lo := 0) (n := 2) (fun j σ' H' => ∃ (u13 u14 u15 u16 : Option V), σ' = [some (.ref a), some (.ref st), some (.int ((0 : Int) + (i : Int))), some (.ref R), some (.ref sp), some (.ref Rr), some (.ref W), v7, some (.ref O), some way, some (.ref h), some br, some (.str (seqD' b ds).shown), u13, u14, u15, u16] ∧ JL [(T1, qw22), (T2, ql22)] st c R sp Rr W h b xs ys hs fs rs wy nm i0 way sr br H6 H')
        ⟨_, _, _, _, rfl, JL7⟩ ?_ ?_⟩
      · clear JL7
        rintro j σ' H hj ⟨u13, u14, u15, u16, rfl, L⟩
        dsimp only [gName, List.set]
        obtain ⟨o, hno, hof⟩ := L.br.at_ K
        refine go_two22 (n := 14) (rs := rs) (sr := sr) L.J.T (by show 14 < 17; decide)
          (try_rule (K := K) (by omega) (fun H1 e Q q => ⟨_, rfl, q _ H1 (Ex.refl _) (.inl ⟨h, hs, rs, rfl, (L.hd.kpn (KpN.ofN e) L.nh).sq, (L.hR.kpn (KpN.ofN e)).rv, rfl⟩)⟩) (fun H1 e Q q => ⟨_, rfl, q _ H1 (Ex.refl _) (L.wy.kpn (KpN.ofN e)).fv⟩))
          (fun l => try_bare (K := K) hno (fun H1 e Q q => ⟨_, rfl, q _ H1 (Ex.refl _) (hof H1 (KpN.ofN e))⟩) (fun H1 e Q q => ⟨_, rfl, q _ H1 (Ex.refl _) (L.wy.kpn (KpN.ofN e)).fv⟩)) fun l v p H1 e1 T1' frl hl hov hp => ?_
        have L1 := L.kpn (KpN.ofN e1) (L.J.S.extn e1) T1'
        clear L e1 T1' frl
        dsimp only [List.set]
        have same : Ev (tCall (spSame 5) [] E0 (tCons (tVar 14) (tCons (tLst (tCons (tCall (spDue K) [] E0 (tCons (tVar 6) (tCons (tVar 9) tNil))) (tCons (tTup (tCons (tC (.str "rule")) (tCons (tC (.int 0)) (tCons (tC (.str "field")) tNil)))) tNil))) tNil))) [some (.ref a), some (.ref st), some (.int ((0 : Int) + (i : Int))), some (.ref R), some (.ref sp), some (.ref Rr), some (.ref W), v7, some (.ref O), some way, some (.ref h), some br, some (.str (seqD' b ds).shown), some (.int ((0 : Int) + (j : Int))), some (.ref l), u15, u16] H1 (.bl true) := fun H2 e2 Q q => by
          have L2 := L1.kpn (KpN.of (Kp.of e2)) (L1.J.S.same e2) (L1.J.T.ext e2)
          refine ⟨_, rfl, _, rfl, _, rfl, W, way, ys, rs, sr, rfl, L2.W.h, L2.W.R.rv, by omega, by omega, L2.wy.fv, fun pd H3 npd e3 hod => ⟨by show 3 ≤ sizeLine; decide, fun w2 nw2 => ?_⟩⟩
          have e4 := Ex.new nw2 (o := .tup [.str "rule", .int 0, .str "field"])
          have hw2 : (upd H3 w2 (.tup [.str "rule", .int 0, .str "field"])) w2 = some (.tup [.str "rule", .int 0, .str "field"]) := upd_same
          refine ⟨by show 2 ≤ sizeLine; decide, ?_⟩
          generalize upd H3 w2 (.tup [.str "rule", .int 0, .str "field"]) = H4 at *
          intro w4 nw4
          have e5 := Ex.new nw4 (o := .lst [.ref pd, .ref w2])
          have hw4 : (upd H4 w4 (.lst [.ref pd, .ref w2])) w4 = some (.lst [.ref pd, .ref w2]) := upd_same
          have e35 := Ex.trans e4 e5
          have e15 := Ex.trans e2 (Ex.trans e3 e35)
          refine ⟨.ref l, .ref w4, rfl, .lst (e15 _ _ hl) hw4 rfl (by show 2 ≤ 40000; decide) fun n u v' z1 z2 => ?_, fun H7 s => q H7 (Ex.trans (Ex.trans e3 e35) s)⟩
          match n, z1, z2 with
          | 0, z1, z2 => cases z1; cases z2; exact (hov.ex e15).same (d := 0) (hod.ex e35) (fsR_len fun r hr ws e => Nat.le_trans (L2.W.b r hr ws e) (by decide)) (by omega)
          | 1, z1, z2 => cases z1; cases z2; exact same_rf (d := 2) (e15 _ _ hp) (e5 _ _ hw2)
          | n + 2, z1, z2 => simp at z1
        refine s_if (b := false) (et_is (et_or (a := false) (et_not (et_B same)) (b := false) fun _ => et_is (et_test (ev_op (ev_reprR (te := tVar 10) (ev_var rfl) L1.hd (fun H' e => hpd H' (L1.kk.trans (KpN.of (Kp.of e)))) hsh (by omega)) (ev_var rfl) (rv_ne rfl))) (by simp)) rfl) (fun z => nomatch z) fun _ H2 e2 => ?_
        exact ⟨_, _, _, _, rfl, L1.kpn (KpN.of (Kp.of e2)) (L1.J.S.same e2) (L1.J.T.ext e2)⟩
      · clear JL7
        rintro σ' H ⟨u13, u14, u15, u16, rfl, L⟩
        dsimp only [gName, List.set]
        have lvw : (vwR fs).length = fs.length := by unfold vwR; rw [List.length_map]
        refine try_rule (K := K) (Tl := [(T1, qw22), (T2, ql22)]) (CR := CR) (CU := CU) (σ := [some (.ref a), some (.ref st), some (.int ((0 : Int) + (i : Int))), some (.ref R), some (.ref sp), some (.ref Rr), some (.ref W), v7, some (.ref O), some way, some (.ref h), some br, some (.str (seqD' b ds).shown), u13, u14, u15, u16]) (H := H) (ta := tVar 5) (tb := tVar 4) (rs := vwR fs) (sr := some ([wy, nm].map some)) (by omega) (fun H1 e Q q => ⟨_, rfl, q _ H1 (Ex.refl _) (.inl ⟨Rr, xs, vwR fs, rfl, .inl ((KpN.ofN e).lst L.J.nRr L.J.hRr), ((rws_rows L.J.S.neL L.J.hT hok.ok).kpn (KpN.ofN e)).rv, rfl⟩)⟩) (fun H1 e Q q => ⟨_, rfl, q _ H1 (Ex.refl _) ((spn L.J).kpn (KpN.ofN e)).fv⟩) H (ExtN.refl _) L.J.T _ fun v H1 e1 T1' ho => ?_
        have J1 := L.J.kpn (KpN.ofN e1) (L.J.S.extn e1) T1'
        refine ⟨_, rfl, by show 2 ≤ sizeLine; decide, fun p np => ?_⟩
        have e2 := Ex.new np (o := .tup [.str "made", .ref R])
        have od : OutAt (upd H1 p (.tup [.str "made", .ref R])) (.ref p) (vwR fs) (some ([wy, nm].map some)) := ⟨p, rfl, .inr (.inr ⟨why_good hok, shown_good hok hw hi, R, xs, upd_same, e2 _ _ J1.hR, by rw [fsR_vw]; exact J1.hT.same e2⟩)⟩
        refine ⟨v, .ref p, rfl, (ho.ex e2).same (d := 1) od (by rw [fsR_vw]; intro z hz; rw [(hok.ok z hz).len]; decide) (by omega), fun H3 e3 => ⟨true, rfl, iteF ?_⟩⟩
        exact ⟨_, _, _, _, _, _, _, _, _, _, _, _, _, _, _, rfl, (J1.S.same e2).same e3, (T1'.ext e2).ext e3⟩
    · rintro σ' H ⟨v2, v3, v4, v5, v6, v7, v8, v9, v10, v11, v12, v13, v14, v15, v16, rfl, S, TS⟩
      exact k H
end
end Lm

namespace Lm
open PySem L2 Evl RZ
theorem FnOk.x {P : Program} {w : World} {K : PySem.W.Frag} {mg : Str → Option Value} {base : Heap} {k : Nat} {f : Addr} {fd : FuncData} {ps : List Str} {sp : Sp} (A : L2.FnOk P w K mg base CX0 k f fd ps sp) : L2.FnOk P w K mg base (L2.CX P w) k f fd ps sp :=
  ⟨A.len, fun C outer s H args us vs Q E hr he hb hv hs => codeAny_mono (A.run C outer s H args us vs Q E hr he hb hv hs) fun r s' hq => by
    cases r with
    | error e => exact (show False from hq).elim
    | ok fl => cases fl <;> exact hq⟩
theorem sqt_of {K : PySem.W.Frag} {a : Addr} {od : Option Addr} {sl : Array (Option Value)} {its : Array Value} {n : Nat} {xs : List V} (h : K.lookup a = some ⟨.type "tuple", od, .seq its n, sl⟩) (hz : its.size ≤ 100) (hv : Vals xs its.toList) : ∀ H, SqT K H a xs := fun H => .inr ⟨_, its, n, h, rfl, rfl, sz_of (by omega), hv⟩
theorem cols_mkN {K : PySem.W.Frag} {C0 c1 c2 c3 c4 c5 c6 e1 e2 e3 e4 e5 e6 : Addr} (h0 : ∀ H, SqT K H C0 [.ref c1, .ref c2, .ref c3, .ref c4, .ref c5, .ref c6]) (h1 : ∀ H, SqT K H c1 [.str "read", .ref e1]) (h2 : ∀ H, SqT K H c2 [.str "jump", .ref e2]) (h3 : ∀ H, SqT K H c3 [.str "anew", .ref e3]) (h4 : ∀ H, SqT K H c4 [.str "give", .ref e4]) (h5 : ∀ H, SqT K H c5 [.str "take", .ref e5]) (h6 : ∀ H, SqT K H c6 [.str "kept", .ref e6])
    (g1 : ∀ H, SqT K H e1 [.str "no", .str "last", .str "raise", .str "row"]) (g2 : ∀ H, SqT K H e2 [.str "no", .str "last", .str "raise", .str "lower"]) (g3 : ∀ H, SqT K H e3 [.str "no", .str "least"]) (g4 : ∀ H, SqT K H e4 [.str "no", .str "last", .str "raise", .str "later"]) (g5 : ∀ H, SqT K H e5 [.str "no", .str "last", .str "raise", .str "later"]) (g6 : ∀ H, SqT K H e6 [.str "exact", .str "floored"]) : ColsN K C0 :=
  ⟨[(c1, "read", e1), (c2, "jump", e2), (c3, "anew", e3), (c4, "give", e4), (c5, "take", e5), (c6, "kept", e6)], rfl, h0, fun i z hz => by
    match i, hz with
    | 0, hz => cases hz; exact ⟨h1, rfl, _, rfl, g1⟩
    | 1, hz => cases hz; exact ⟨h2, rfl, _, rfl, g2⟩
    | 2, hz => cases hz; exact ⟨h3, rfl, _, rfl, g3⟩
    | 3, hz => cases hz; exact ⟨h4, rfl, _, rfl, g4⟩
    | 4, hz => cases hz; exact ⟨h5, rfl, _, rfl, g5⟩
    | 5, hz => cases hz; exact ⟨h6, rfl, _, rfl, g6⟩
    | n + 6, hz => simp at hz⟩
section
variable {P : Program} {w : World} {K : PySem.W.Frag} {mg : Str → Option Value} {base : Heap} {f : Addr} {fd : FuncData}
theorem ok_rl_initE {CR C fR fS fX fY fI : Addr} {fdR fdS fdX fdY fdI : FuncData} (F : L2.Fun K "__init__" "Rule.__init__" s_Rule_init f fd) (T : Blt mg) (W : RlTxt K CR) (TB : ErrF2 K mg "BadRule" C fI "index" "reason") (IB : ErrI2 P w K mg base C fI fdI "index" "reason") (D_require_fields : DefOk P w K mg base 3 "require_fields" fR fdR ["fields"] spReqFields) (D_is_pair_shown : DefOk P w K mg base 2 "is_pair_shown" fS fdS ["show"] spPairS)
    (DX_require_fields : DefOkX P w K mg base 3 "require_fields" fX fdX ["fields"] (spReqX K C)) (D_is_pair_shownX : DefOk P w K mg base 2 "is_pair_shown" fY fdY ["show"] (spPairX K)) : FnOk P w K mg base (L2.CX P w) 4 f fd ["self", "fields", "show"] (spRlE K CR C) :=
  Lm.FnOk.or' (Lm.FnOk.x (ok_rl_init F T W D_require_fields D_is_pair_shown)) (ok_rl_initX F T TB IB DX_require_fields D_is_pair_shownX)
end
end Lm

namespace Lm
open PySem L2
theorem all_mk {l : PySem.W.OpenLaw} {w : World} {K : PySem.W.Frag} {h : Heap} {mg : Str → Option Value} {fa C_Rule W0 C0 c1 c2 c3 c4 c5 c6 e1 e2 e3 e4 e5 e6 C_RU f_fresh f_fill f_take f_one f_same f_allw f_somew f_handed f_odd f_parts f_field f_rule f_deep f_isrow f_isword f_RUinit f_wrongw f_reqf f_pairs f_rlinit f_rlfields f_tried f_iswL f_reason f_due f_wrong f_wr f_law : Addr} (X : K.In h) (G : h.Ns mainGlobals mg) (hfa : mg "law" = some (.ref fa))
    {od_fresh an_fresh od_fill an_fill od_take an_take od_one an_one od_same an_same od_allw an_allw od_somew an_somew od_handed an_handed od_odd an_odd od_parts an_parts od_field an_field od_rule an_rule od_deep an_deep od_isrow an_isrow od_isword an_isword od_RUinit an_RUinit od_wrongw an_wrongw od_reqf an_reqf od_pairs an_pairs od_rlinit an_rlinit od_rlfields an_rlfields od_tried an_tried od_iswL an_iswL od_reason an_reason od_due an_due od_wrong an_wrong od_wr an_wr od_law an_law : Option Addr} {sl_fresh sl_fill sl_take sl_one sl_same sl_allw sl_somew sl_handed sl_odd sl_parts sl_field sl_rule sl_deep sl_isrow sl_isword sl_RUinit sl_wrongw sl_reqf sl_pairs sl_rlinit sl_rlfields sl_tried sl_iswL sl_reason sl_due sl_wrong sl_wr sl_law : Array (Option Value)} {oc_fresh kV_fresh dc_fresh pm_fresh cd_fresh ct_fresh oc_fill kV_fill dc_fill pm_fill cd_fill ct_fill oc_take kV_take dc_take pm_take cd_take ct_take oc_one kV_one dc_one pm_one cd_one ct_one oc_same kV_same dc_same pm_same cd_same ct_same oc_allw kV_allw dc_allw pm_allw cd_allw ct_allw oc_somew kV_somew dc_somew pm_somew cd_somew ct_somew oc_handed kV_handed dc_handed pm_handed cd_handed ct_handed oc_odd kV_odd dc_odd pm_odd cd_odd ct_odd oc_parts kV_parts dc_parts pm_parts cd_parts ct_parts oc_field kV_field dc_field pm_field cd_field ct_field oc_rule kV_rule dc_rule pm_rule cd_rule ct_rule oc_deep kV_deep dc_deep pm_deep cd_deep ct_deep oc_isrow kV_isrow dc_isrow pm_isrow cd_isrow ct_isrow oc_isword kV_isword dc_isword pm_isword cd_isword ct_isword oc_RUinit kV_RUinit dc_RUinit pm_RUinit cd_RUinit ct_RUinit oc_wrongw kV_wrongw dc_wrongw pm_wrongw cd_wrongw ct_wrongw oc_reqf kV_reqf dc_reqf pm_reqf cd_reqf ct_reqf oc_pairs kV_pairs dc_pairs pm_pairs cd_pairs ct_pairs oc_rlinit kV_rlinit dc_rlinit pm_rlinit cd_rlinit ct_rlinit oc_rlfields kV_rlfields dc_rlfields pm_rlfields cd_rlfields ct_rlfields oc_tried kV_tried dc_tried pm_tried cd_tried ct_tried oc_iswL kV_iswL dc_iswL pm_iswL cd_iswL ct_iswL oc_reason kV_reason dc_reason pm_reason cd_reason ct_reason oc_due kV_due dc_due pm_due cd_due ct_due oc_wrong kV_wrong dc_wrong pm_wrong cd_wrong ct_wrong oc_wr kV_wr dc_wr pm_wr ct_wr oc_law kV_law dc_law pm_law ct_law : Value} {tL tW : Tok}
    {Z_wr Y_wr : Addr} {oz_wr : Value} {oy_wr : Option Addr} {vz_wr : Array Value} {sz_wr : Array (Option Value)}
    {Z_law Y_law : Addr} {oz_law : Value} {oy_law : Option Addr} {vz_law : Array Value} {sz_law : Array (Option Value)}
    {nmRU qRU : Str} {NRU : Addr} {bsRU bmRU : List Value} {snRU : List Str} {subRU : List Value} {abRU : Bool} {colRU : Option Bool} {ddRU : Option Addr} {k0RU k1RU k2RU k3RU k5RU : Option Value} {odW0 odC0 odc1 odc2 odc3 odc4 odc5 odc6 ode1 ode2 ode3 ode4 ode5 ode6 : Option Addr} {nnW0 nnC0 nnc1 nnc2 nnc3 nnc4 nnc5 nnc6 nne1 nne2 nne3 nne4 nne5 nne6 : Nat} {slW0 slC0 slc1 slc2 slc3 slc4 slc5 slc6 sle1 sle2 sle3 sle4 sle5 sle6 : Array (Option Value)} {t1 t2 t3 t4 t5 t6 t7 t8 t9 t10 t11 t12 t13 t14 t15 t16 t17 t18 t19 t20 t21 t22 t23 t24 t25 t26 t27 t28 t29 tM : Tok}
    (a_Rule : PySem.W.nsIn K mainGlobals "Rule" = some (some (.ref C_Rule)))
    (pg_Rule : PySem.W.plainGet K C_Rule Str.empty = true)
    (hd_Rule : PySem.W.hasDictIn K C_Rule = true)
    (po_Rule : PySem.W.plainOver K C_Rule = true)
    (sa_Rule : PySem.W.findIn K (.ref C_Rule) "__setattr__" = some (some (.builtin "object.__setattr__")))
    (mk_Rule : PySem.W.makesIn K C_Rule = true)
    (kc_Rule : PySem.W.keepIn K (.ref C_Rule) = true)
    (n_Rule_rows : PySem.W.findIn K (.ref C_Rule) "rows" = some none)
    (n_Rule_way : PySem.W.findIn K (.ref C_Rule) "way" = some none)
    (n_Rule_at : PySem.W.findIn K (.ref C_Rule) "at" = some none)
    (a_fresh : PySem.W.nsIn K mainGlobals "_law_fresh" = some (some (.ref f_fresh)))
    (l_fresh : K.lookup f_fresh = some ⟨oc_fresh, od_fresh, .func (PySem.W.fnOf "_law_fresh" "_law_fresh" (defArgs s_fresh) (defBody s_fresh) (defScope s_fresh) .none kV_fresh dc_fresh pm_fresh an_fresh cd_fresh ct_fresh), sl_fresh⟩)
    (c_fresh : PySem.W.codeIn K cd_fresh "_law_fresh" = true)
    (k_fresh : PySem.W.keepIn K (.ref f_fresh) = true)
    (a_fill : PySem.W.nsIn K mainGlobals "_law_fill" = some (some (.ref f_fill)))
    (l_fill : K.lookup f_fill = some ⟨oc_fill, od_fill, .func (PySem.W.fnOf "_law_fill" "_law_fill" (defArgs s_fill) (defBody s_fill) (defScope s_fill) .none kV_fill dc_fill pm_fill an_fill cd_fill ct_fill), sl_fill⟩)
    (c_fill : PySem.W.codeIn K cd_fill "_law_fill" = true)
    (k_fill : PySem.W.keepIn K (.ref f_fill) = true)
    (a_take : PySem.W.nsIn K mainGlobals "_law_take" = some (some (.ref f_take)))
    (l_take : K.lookup f_take = some ⟨oc_take, od_take, .func (PySem.W.fnOf "_law_take" "_law_take" (defArgs s_take) (defBody s_take) (defScope s_take) .none kV_take dc_take pm_take an_take cd_take ct_take), sl_take⟩)
    (c_take : PySem.W.codeIn K cd_take "_law_take" = true)
    (k_take : PySem.W.keepIn K (.ref f_take) = true)
    (a_one : PySem.W.nsIn K mainGlobals "_law_one" = some (some (.ref f_one)))
    (l_one : K.lookup f_one = some ⟨oc_one, od_one, .func (PySem.W.fnOf "_law_one" "_law_one" (defArgs s_one) (defBody s_one) (defScope s_one) .none kV_one dc_one pm_one an_one cd_one ct_one), sl_one⟩)
    (c_one : PySem.W.codeIn K cd_one "_law_one" = true)
    (k_one : PySem.W.keepIn K (.ref f_one) = true)
    (a_same : PySem.W.nsIn K mainGlobals "_law_same" = some (some (.ref f_same)))
    (l_same : K.lookup f_same = some ⟨oc_same, od_same, .func (PySem.W.fnOf "_law_same" "_law_same" (defArgs s_same) (defBody s_same) (defScope s_same) .none kV_same dc_same pm_same an_same cd_same ct_same), sl_same⟩)
    (c_same : PySem.W.codeIn K cd_same "_law_same" = true)
    (k_same : PySem.W.keepIn K (.ref f_same) = true)
    (a_allw : PySem.W.nsIn K mainGlobals "_law_all_words" = some (some (.ref f_allw)))
    (l_allw : K.lookup f_allw = some ⟨oc_allw, od_allw, .func (PySem.W.fnOf "_law_all_words" "_law_all_words" (defArgs s_all_words) (defBody s_all_words) (defScope s_all_words) .none kV_allw dc_allw pm_allw an_allw cd_allw ct_allw), sl_allw⟩)
    (c_allw : PySem.W.codeIn K cd_allw "_law_all_words" = true)
    (k_allw : PySem.W.keepIn K (.ref f_allw) = true)
    (a_somew : PySem.W.nsIn K mainGlobals "_law_some_words" = some (some (.ref f_somew)))
    (l_somew : K.lookup f_somew = some ⟨oc_somew, od_somew, .func (PySem.W.fnOf "_law_some_words" "_law_some_words" (defArgs s_some_words) (defBody s_some_words) (defScope s_some_words) .none kV_somew dc_somew pm_somew an_somew cd_somew ct_somew), sl_somew⟩)
    (c_somew : PySem.W.codeIn K cd_somew "_law_some_words" = true)
    (k_somew : PySem.W.keepIn K (.ref f_somew) = true)
    (a_handed : PySem.W.nsIn K mainGlobals "_law_handed" = some (some (.ref f_handed)))
    (l_handed : K.lookup f_handed = some ⟨oc_handed, od_handed, .func (PySem.W.fnOf "_law_handed" "_law_handed" (defArgs s_handed) (defBody s_handed) (defScope s_handed) .none kV_handed dc_handed pm_handed an_handed cd_handed ct_handed), sl_handed⟩)
    (c_handed : PySem.W.codeIn K cd_handed "_law_handed" = true)
    (k_handed : PySem.W.keepIn K (.ref f_handed) = true)
    (a_odd : PySem.W.nsIn K mainGlobals "_law_odd" = some (some (.ref f_odd)))
    (l_odd : K.lookup f_odd = some ⟨oc_odd, od_odd, .func (PySem.W.fnOf "_law_odd" "_law_odd" (defArgs s_odd) (defBody s_odd) (defScope s_odd) .none kV_odd dc_odd pm_odd an_odd cd_odd ct_odd), sl_odd⟩)
    (c_odd : PySem.W.codeIn K cd_odd "_law_odd" = true)
    (k_odd : PySem.W.keepIn K (.ref f_odd) = true)
    (a_parts : PySem.W.nsIn K mainGlobals "_law_parts" = some (some (.ref f_parts)))
    (l_parts : K.lookup f_parts = some ⟨oc_parts, od_parts, .func (PySem.W.fnOf "_law_parts" "_law_parts" (defArgs s_parts) (defBody s_parts) (defScope s_parts) .none kV_parts dc_parts pm_parts an_parts cd_parts ct_parts), sl_parts⟩)
    (c_parts : PySem.W.codeIn K cd_parts "_law_parts" = true)
    (k_parts : PySem.W.keepIn K (.ref f_parts) = true)
    (a_field : PySem.W.nsIn K mainGlobals "_law_field" = some (some (.ref f_field)))
    (l_field : K.lookup f_field = some ⟨oc_field, od_field, .func (PySem.W.fnOf "_law_field" "_law_field" (defArgs s_field) (defBody s_field) (defScope s_field) .none kV_field dc_field pm_field an_field cd_field ct_field), sl_field⟩)
    (c_field : PySem.W.codeIn K cd_field "_law_field" = true)
    (k_field : PySem.W.keepIn K (.ref f_field) = true)
    (a_rule : PySem.W.nsIn K mainGlobals "_law_rule" = some (some (.ref f_rule)))
    (l_rule : K.lookup f_rule = some ⟨oc_rule, od_rule, .func (PySem.W.fnOf "_law_rule" "_law_rule" (defArgs s_rule) (defBody s_rule) (defScope s_rule) .none kV_rule dc_rule pm_rule an_rule cd_rule ct_rule), sl_rule⟩)
    (c_rule : PySem.W.codeIn K cd_rule "_law_rule" = true)
    (k_rule : PySem.W.keepIn K (.ref f_rule) = true)
    (a_deep : PySem.W.nsIn K mainGlobals "_law_deep" = some (some (.ref f_deep)))
    (l_deep : K.lookup f_deep = some ⟨oc_deep, od_deep, .func (PySem.W.fnOf "_law_deep" "_law_deep" (defArgs s_deep) (defBody s_deep) (defScope s_deep) .none kV_deep dc_deep pm_deep an_deep cd_deep ct_deep), sl_deep⟩)
    (c_deep : PySem.W.codeIn K cd_deep "_law_deep" = true)
    (k_deep : PySem.W.keepIn K (.ref f_deep) = true)
    (a_isrow : PySem.W.nsIn K mainGlobals "is_row" = some (some (.ref f_isrow)))
    (l_isrow : K.lookup f_isrow = some ⟨oc_isrow, od_isrow, .func (PySem.W.fnOf "is_row" "is_row" (defArgs s_is_row) (defBody s_is_row) (defScope s_is_row) .none kV_isrow dc_isrow pm_isrow an_isrow cd_isrow ct_isrow), sl_isrow⟩)
    (c_isrow : PySem.W.codeIn K cd_isrow "is_row" = true)
    (k_isrow : PySem.W.keepIn K (.ref f_isrow) = true)
    (a_isword : PySem.W.nsIn K mainGlobals "is_word" = some (some (.ref f_isword)))
    (l_isword : K.lookup f_isword = some ⟨oc_isword, od_isword, .func (PySem.W.fnOf "is_word" "is_word" (defArgs s_is_word) (defBody s_is_word) (defScope s_is_word) .none kV_isword dc_isword pm_isword an_isword cd_isword ct_isword), sl_isword⟩)
    (c_isword : PySem.W.codeIn K cd_isword "is_word" = true)
    (k_isword : PySem.W.keepIn K (.ref f_isword) = true)
    (aRU : PySem.W.nsIn K mainGlobals "BadRule" = some (some (.ref C_RU)))
    (oRU : K.lookup C_RU = some (excClassObj nmRU qRU C_RU NRU bsRU bmRU true snRU subRU abRU colRU ddRU k0RU k1RU k2RU k3RU k5RU "ValueError.__new__"))
    (rRU : PySem.HandSPX.refsVE bmRU = true)
    (sRU : PySem.W.findIn K (.ref C_RU) "__setattr__" = some (some (.builtin "object.__setattr__")))
    (bRU : PySem.W.subIn K (.ref C_RU) (.type "BaseException") = some true)
    (tRU : PySem.W.typeIn K (.ref C_RU) = some (.type "type"))
    (kRU : PySem.W.keepIn K (.ref C_RU) = true)
    (gaRU : PySem.W.findIn K (.ref C_RU) "__getattribute__" = some (some (.builtin "BaseException.__getattribute__")))
    (ggRU : PySem.W.findIn K (.ref C_RU) "__getattr__" = some none)
    (hdRU : PySem.W.hasDictIn K C_RU = true)
    (iRU : PySem.W.findIn K (.ref C_RU) "__init__" = some (some (.ref f_RUinit)))
    (tyRU : PySem.W.typeIn K (.ref f_RUinit) = some (.type "function"))
    (icRU : PySem.W.isClsIn K C_RU = true)
    (seRU : PySem.W.subIn K (.ref C_RU) (.ref C_RU) = some true)
    (noRU : PySem.W.findIn K (.ref C_RU) "index" = some none)
    (npRU : PySem.W.findIn K (.ref C_RU) "reason" = some none)
    (l_RUinit : K.lookup f_RUinit = some ⟨oc_RUinit, od_RUinit, .func (PySem.W.fnOf "__init__" "BadRule.__init__" (defArgs s_BadRule_init) (defBody s_BadRule_init) (defScope s_BadRule_init) .none kV_RUinit dc_RUinit pm_RUinit an_RUinit cd_RUinit ct_RUinit), sl_RUinit⟩)
    (c_RUinit : PySem.W.codeIn K cd_RUinit "BadRule.__init__" = true)
    (k_RUinit : PySem.W.keepIn K (.ref f_RUinit) = true)
    (a_wrongw : PySem.W.nsIn K mainGlobals "wrong_with" = some (some (.ref f_wrongw)))
    (l_wrongw : K.lookup f_wrongw = some ⟨oc_wrongw, od_wrongw, .func (PySem.W.fnOf "wrong_with" "wrong_with" (defArgs s_wrong_with) (defBody s_wrong_with) (defScope s_wrong_with) .none kV_wrongw dc_wrongw pm_wrongw an_wrongw cd_wrongw ct_wrongw), sl_wrongw⟩)
    (c_wrongw : PySem.W.codeIn K cd_wrongw "wrong_with" = true)
    (k_wrongw : PySem.W.keepIn K (.ref f_wrongw) = true)
    (a_reqf : PySem.W.nsIn K mainGlobals "require_fields" = some (some (.ref f_reqf)))
    (l_reqf : K.lookup f_reqf = some ⟨oc_reqf, od_reqf, .func (PySem.W.fnOf "require_fields" "require_fields" (defArgs s_require_fields) (defBody s_require_fields) (defScope s_require_fields) .none kV_reqf dc_reqf pm_reqf an_reqf cd_reqf ct_reqf), sl_reqf⟩)
    (c_reqf : PySem.W.codeIn K cd_reqf "require_fields" = true)
    (k_reqf : PySem.W.keepIn K (.ref f_reqf) = true)
    (a_pairs : PySem.W.nsIn K mainGlobals "is_pair_shown" = some (some (.ref f_pairs)))
    (l_pairs : K.lookup f_pairs = some ⟨oc_pairs, od_pairs, .func (PySem.W.fnOf "is_pair_shown" "is_pair_shown" (defArgs s_is_pair_shown) (defBody s_is_pair_shown) (defScope s_is_pair_shown) .none kV_pairs dc_pairs pm_pairs an_pairs cd_pairs ct_pairs), sl_pairs⟩)
    (c_pairs : PySem.W.codeIn K cd_pairs "is_pair_shown" = true)
    (k_pairs : PySem.W.keepIn K (.ref f_pairs) = true)
    (a_rlinit : PySem.W.findIn K (.ref C_Rule) "__init__" = some (some (.ref f_rlinit)))
    (i_rlinit : PySem.W.isFn K (.ref f_rlinit) = true)
    (l_rlinit : K.lookup f_rlinit = some ⟨oc_rlinit, od_rlinit, .func (PySem.W.fnOf "__init__" "Rule.__init__" (defArgs s_Rule_init) (defBody s_Rule_init) (defScope s_Rule_init) .none kV_rlinit dc_rlinit pm_rlinit an_rlinit cd_rlinit ct_rlinit), sl_rlinit⟩)
    (c_rlinit : PySem.W.codeIn K cd_rlinit "Rule.__init__" = true)
    (k_rlinit : PySem.W.keepIn K (.ref f_rlinit) = true)
    (a_rlfields : PySem.W.findIn K (.ref C_Rule) "fields" = some (some (.ref f_rlfields)))
    (i_rlfields : PySem.W.isFn K (.ref f_rlfields) = true)
    (l_rlfields : K.lookup f_rlfields = some ⟨oc_rlfields, od_rlfields, .func (PySem.W.fnOf "fields" "Rule.fields" (defArgs s_Rule_fields) (defBody s_Rule_fields) (defScope s_Rule_fields) .none kV_rlfields dc_rlfields pm_rlfields an_rlfields cd_rlfields ct_rlfields), sl_rlfields⟩)
    (c_rlfields : PySem.W.codeIn K cd_rlfields "Rule.fields" = true)
    (k_rlfields : PySem.W.keepIn K (.ref f_rlfields) = true)
    (a_tried : PySem.W.nsIn K mainGlobals "_law_tried" = some (some (.ref f_tried)))
    (l_tried : K.lookup f_tried = some ⟨oc_tried, od_tried, .func (PySem.W.fnOf "_law_tried" "_law_tried" (defArgs s_tried) (defBody s_tried) (defScope s_tried) .none kV_tried dc_tried pm_tried an_tried cd_tried ct_tried), sl_tried⟩)
    (c_tried : PySem.W.codeIn K cd_tried "_law_tried" = true)
    (k_tried : PySem.W.keepIn K (.ref f_tried) = true)
    (a_iswL : PySem.W.nsIn K mainGlobals "_law_is_word" = some (some (.ref f_iswL)))
    (l_iswL : K.lookup f_iswL = some ⟨oc_iswL, od_iswL, .func (PySem.W.fnOf "_law_is_word" "_law_is_word" (defArgs s_is_wordL) (defBody s_is_wordL) (defScope s_is_wordL) .none kV_iswL dc_iswL pm_iswL an_iswL cd_iswL ct_iswL), sl_iswL⟩)
    (c_iswL : PySem.W.codeIn K cd_iswL "_law_is_word" = true)
    (k_iswL : PySem.W.keepIn K (.ref f_iswL) = true)
    (a_reason : PySem.W.nsIn K mainGlobals "_law_reason" = some (some (.ref f_reason)))
    (l_reason : K.lookup f_reason = some ⟨oc_reason, od_reason, .func (PySem.W.fnOf "_law_reason" "_law_reason" (defArgs s_reason) (defBody s_reason) (defScope s_reason) .none kV_reason dc_reason pm_reason an_reason cd_reason ct_reason), sl_reason⟩)
    (c_reason : PySem.W.codeIn K cd_reason "_law_reason" = true)
    (k_reason : PySem.W.keepIn K (.ref f_reason) = true)
    (a_due : PySem.W.nsIn K mainGlobals "_law_due" = some (some (.ref f_due)))
    (l_due : K.lookup f_due = some ⟨oc_due, od_due, .func (PySem.W.fnOf "_law_due" "_law_due" (defArgs s_due) (defBody s_due) (defScope s_due) .none kV_due dc_due pm_due an_due cd_due ct_due), sl_due⟩)
    (c_due : PySem.W.codeIn K cd_due "_law_due" = true)
    (k_due : PySem.W.keepIn K (.ref f_due) = true)
    (a_wrong : PySem.W.nsIn K mainGlobals "_law_wrong" = some (some (.ref f_wrong)))
    (l_wrong : K.lookup f_wrong = some ⟨oc_wrong, od_wrong, .func (PySem.W.fnOf "_law_wrong" "_law_wrong" (defArgs s_wrong) (defBody s_wrong) (defScope s_wrong) .none kV_wrong dc_wrong pm_wrong an_wrong cd_wrong ct_wrong), sl_wrong⟩)
    (c_wrong : PySem.W.codeIn K cd_wrong "_law_wrong" = true)
    (k_wrong : PySem.W.keepIn K (.ref f_wrong) = true)
    (a_wr : PySem.W.nsIn K mainGlobals "_law_written_right" = some (some (.ref f_wr)))
    (l_wr : K.lookup f_wr = some ⟨oc_wr, od_wr, .func (PySem.W.fnOf "_law_written_right" "_law_written_right" (defArgs s_written_right) (defBody s_written_right) (defScope s_written_right) .none kV_wr dc_wr pm_wr an_wr (.ref Z_wr) ct_wr), sl_wr⟩)
    (c_wr : PySem.W.codeIn K (.ref Z_wr) "_law_written_right" = true)
    (k_wr : PySem.W.keepIn K (.ref f_wr) = true)
    (lz_wr : K.lookup Z_wr = some ⟨oz_wr, oy_wr, .fields vz_wr, sz_wr⟩)
    (vz_wr : vz_wr[11]? = some (.ref Y_wr))
    (hz_wr : PySem.W.codeHdIn K Z_wr Y_wr = true)
    (nz_wr : K.lookup Y_wr = none)
    (tz_wr : h.get? Y_wr = some (PySem.W.tabObj #[]))
    (a_law : PySem.W.nsIn K mainGlobals "law" = some (some (.ref f_law)))
    (l_law : K.lookup f_law = some ⟨oc_law, od_law, .func (PySem.W.fnOf "law" "law" (defArgs s_law) (defBody s_law) (defScope s_law) .none kV_law dc_law pm_law an_law (.ref Z_law) ct_law), sl_law⟩)
    (c_law : PySem.W.codeIn K (.ref Z_law) "law" = true)
    (k_law : PySem.W.keepIn K (.ref f_law) = true)
    (lz_law : K.lookup Z_law = some ⟨oz_law, oy_law, .fields vz_law, sz_law⟩)
    (vz_law : vz_law[11]? = some (.ref Y_law))
    (hz_law : PySem.W.codeHdIn K Z_law Y_law = true)
    (nz_law : K.lookup Y_law = none)
    (tz_law : h.get? Y_law = some (PySem.W.tabObj #[]))
    (g_LETTERS : PySem.W.nsIn K mainGlobals "LETTERS" = some (some (.str "abcdefghijklmnopqrstuvwxyz" tL)))
    (g_LONGEST_WORD : PySem.W.nsIn K mainGlobals "LONGEST_WORD" = some (some (.int 8 tW)))
    (g_MOST_FIELDS : PySem.W.nsIn K mainGlobals "MOST_FIELDS" = some (some (.int 3 tM)))
    (g_COLUMNS : PySem.W.nsIn K mainGlobals "COLUMNS" = some (some (.ref C0)))
    (g_WAYS : PySem.W.nsIn K mainGlobals "WAYS" = some (some (.ref W0)))
    (z_len : PySem.W.nsIn K mainGlobals "len" = some none)
    (z_int : PySem.W.nsIn K mainGlobals "int" = some none)
    (z_range : PySem.W.nsIn K mainGlobals "range" = some none)
    (z_enumerate : PySem.W.nsIn K mainGlobals "enumerate" = some none)
    (z_isinstance : PySem.W.nsIn K mainGlobals "isinstance" = some none)
    (z_list : PySem.W.nsIn K mainGlobals "list" = some none)
    (z_tuple : PySem.W.nsIn K mainGlobals "tuple" = some none)
    (z_str : PySem.W.nsIn K mainGlobals "str" = some none)
    (z_bool : PySem.W.nsIn K mainGlobals "bool" = some none)
    (z_all : PySem.W.nsIn K mainGlobals "all" = some none)
    (z_max : PySem.W.nsIn K mainGlobals "max" = some none)
    (z_zip : PySem.W.nsIn K mainGlobals "zip" = some none)
    (kW0 : K.lookup W0 = some ⟨.type "tuple", odW0, .seq #[.str "stay" t1, .str "field" t2, .str "greater" t3] nnW0, slW0⟩)
    (kC0 : K.lookup C0 = some ⟨.type "tuple", odC0, .seq #[.ref c1, .ref c2, .ref c3, .ref c4, .ref c5, .ref c6] nnC0, slC0⟩)
    (kc1 : K.lookup c1 = some ⟨.type "tuple", odc1, .seq #[.str "read" t4, .ref e1] nnc1, slc1⟩)
    (kc2 : K.lookup c2 = some ⟨.type "tuple", odc2, .seq #[.str "jump" t5, .ref e2] nnc2, slc2⟩)
    (kc3 : K.lookup c3 = some ⟨.type "tuple", odc3, .seq #[.str "anew" t6, .ref e3] nnc3, slc3⟩)
    (kc4 : K.lookup c4 = some ⟨.type "tuple", odc4, .seq #[.str "give" t7, .ref e4] nnc4, slc4⟩)
    (kc5 : K.lookup c5 = some ⟨.type "tuple", odc5, .seq #[.str "take" t8, .ref e5] nnc5, slc5⟩)
    (kc6 : K.lookup c6 = some ⟨.type "tuple", odc6, .seq #[.str "kept" t9, .ref e6] nnc6, slc6⟩)
    (ke1 : K.lookup e1 = some ⟨.type "tuple", ode1, .seq #[.str "no" t10, .str "last" t11, .str "raise" t12, .str "row" t13] nne1, sle1⟩)
    (ke2 : K.lookup e2 = some ⟨.type "tuple", ode2, .seq #[.str "no" t14, .str "last" t15, .str "raise" t16, .str "lower" t17] nne2, sle2⟩)
    (ke3 : K.lookup e3 = some ⟨.type "tuple", ode3, .seq #[.str "no" t18, .str "least" t19] nne3, sle3⟩)
    (ke4 : K.lookup e4 = some ⟨.type "tuple", ode4, .seq #[.str "no" t20, .str "last" t21, .str "raise" t22, .str "later" t23] nne4, sle4⟩)
    (ke5 : K.lookup e5 = some ⟨.type "tuple", ode5, .seq #[.str "no" t24, .str "last" t25, .str "raise" t26, .str "later" t27] nne5, sle5⟩)
    (ke6 : K.lookup e6 = some ⟨.type "tuple", ode6, .seq #[.str "exact" t28, .str "floored" t29] nne6, sle6⟩)
    (z_repr : PySem.W.nsIn K mainGlobals "repr" = some none)
    (dd12 : Y_wr ≠ Y_law)
    : LawAtG l w K 10 63 "_law_script" mg fa h := by
  have e := hfa.symm.trans (PySem.W.mg_of X G a_law)
  cases e
  have T : Blt mg := ⟨PySem.W.mg_none_of X G z_len, PySem.W.mg_none_of X G z_int, PySem.W.mg_none_of X G z_range, PySem.W.mg_none_of X G z_enumerate, PySem.W.mg_none_of X G z_isinstance, PySem.W.mg_none_of X G z_list, PySem.W.mg_none_of X G z_tuple, PySem.W.mg_none_of X G z_str, PySem.W.mg_none_of X G z_bool, PySem.W.mg_none_of X G z_all, PySem.W.mg_none_of X G z_max, PySem.W.mg_none_of X G z_zip⟩
  have cl_Rule : Cls K C_Rule := ⟨pg_Rule, hd_Rule, po_Rule, sa_Rule⟩
  have mg_Rule := PySem.W.mg_of X G a_Rule
  have TC : Cst mg tL tW := ⟨PySem.W.mg_of X G g_LETTERS, PySem.W.mg_of X G g_LONGEST_WORD⟩
  have TE_RU : ErrF2 K mg "BadRule" C_RU f_RUinit "index" "reason" := ⟨PySem.W.mg_of X G aRU, ⟨⟨_, _, _, _, _, _, _, _, _, _, _, _, _, _, _, oRU, rRU⟩, sRU, bRU, tRU, kRU⟩, ⟨gaRU, ggRU, bRU, hdRU⟩, iRU, tyRU, noRU, npRU, icRU, seRU⟩
  have TRP : ReprB mg := ⟨PySem.W.mg_none_of X G z_repr⟩
  have WR : RlTxt K C_Rule := ⟨cl_Rule, n_Rule_rows, n_Rule_way, n_Rule_at⟩
  have TR : RlCst mg C0 W0 tM := ⟨PySem.W.mg_of X G g_MOST_FIELDS, PySem.W.mg_of X G g_COLUMNS, PySem.W.mg_of X G g_WAYS⟩
  have hW : ∀ H, SqT K H W0 (ways.map V.str) := (sqt_of kW0 (Nat.le_of_ble_eq_true rfl) (.cons ⟨_, rfl⟩ (.cons ⟨_, rfl⟩ (.cons ⟨_, rfl⟩ (.nil)))))
  have CC : ColsN K C0 := cols_mkN (sqt_of kC0 (Nat.le_of_ble_eq_true rfl) (.cons rfl (.cons rfl (.cons rfl (.cons rfl (.cons rfl (.cons rfl (.nil)))))))) (sqt_of kc1 (Nat.le_of_ble_eq_true rfl) (.cons ⟨_, rfl⟩ (.cons rfl (.nil)))) (sqt_of kc2 (Nat.le_of_ble_eq_true rfl) (.cons ⟨_, rfl⟩ (.cons rfl (.nil)))) (sqt_of kc3 (Nat.le_of_ble_eq_true rfl) (.cons ⟨_, rfl⟩ (.cons rfl (.nil)))) (sqt_of kc4 (Nat.le_of_ble_eq_true rfl) (.cons ⟨_, rfl⟩ (.cons rfl (.nil)))) (sqt_of kc5 (Nat.le_of_ble_eq_true rfl) (.cons ⟨_, rfl⟩ (.cons rfl (.nil)))) (sqt_of kc6 (Nat.le_of_ble_eq_true rfl) (.cons ⟨_, rfl⟩ (.cons rfl (.nil)))) (sqt_of ke1 (Nat.le_of_ble_eq_true rfl) (.cons ⟨_, rfl⟩ (.cons ⟨_, rfl⟩ (.cons ⟨_, rfl⟩ (.cons ⟨_, rfl⟩ (.nil)))))) (sqt_of ke2 (Nat.le_of_ble_eq_true rfl) (.cons ⟨_, rfl⟩ (.cons ⟨_, rfl⟩ (.cons ⟨_, rfl⟩ (.cons ⟨_, rfl⟩ (.nil)))))) (sqt_of ke3 (Nat.le_of_ble_eq_true rfl) (.cons ⟨_, rfl⟩ (.cons ⟨_, rfl⟩ (.nil)))) (sqt_of ke4 (Nat.le_of_ble_eq_true rfl) (.cons ⟨_, rfl⟩ (.cons ⟨_, rfl⟩ (.cons ⟨_, rfl⟩ (.cons ⟨_, rfl⟩ (.nil)))))) (sqt_of ke5 (Nat.le_of_ble_eq_true rfl) (.cons ⟨_, rfl⟩ (.cons ⟨_, rfl⟩ (.cons ⟨_, rfl⟩ (.cons ⟨_, rfl⟩ (.nil)))))) (sqt_of ke6 (Nat.le_of_ble_eq_true rfl) (.cons ⟨_, rfl⟩ (.cons ⟨_, rfl⟩ (.nil))))
  have hu_wr : ∀ p ∈ [(Y_wr, qw22), (Y_law, ql22)], p.1 = Y_wr → p.2 = qw22 := fun p hp h2 => by
    simp only [List.mem_cons, List.not_mem_nil, or_false] at hp
    rcases hp with rfl | rfl
    · rfl
    · exact absurd h2.symm dd12
  have hu_law : ∀ p ∈ [(Y_wr, qw22), (Y_law, ql22)], p.1 = Y_law → p.2 = ql22 := fun p hp h2 => by
    simp only [List.mem_cons, List.not_mem_nil, or_false] at hp
    rcases hp with rfl | rfl
    · exact absurd h2 dd12
    · rfl
  have F_fresh := fun_mk (st := s_fresh) l_fresh c_fresh k_fresh
  have b_fresh := F_fresh.binds (ps := ["_law_script"]) fun _ _ _ _ _ _ us hl => match us, hl with | [_], _ => rfl
  have F_fill := fun_mk (st := s_fill) l_fill c_fill k_fill
  have b_fill := F_fill.binds (ps := ["_law_state"]) fun _ _ _ _ _ _ us hl => match us, hl with | [_], _ => rfl
  have F_take := fun_mk (st := s_take) l_take c_take k_take
  have b_take := F_take.binds (ps := ["_law_state", "_law_many"]) fun _ _ _ _ _ _ us hl => match us, hl with | [_, _], _ => rfl
  have F_one := fun_mk (st := s_one) l_one c_one k_one
  have b_one := F_one.binds (ps := ["_law_state", "_law_things"]) fun _ _ _ _ _ _ us hl => match us, hl with | [_, _], _ => rfl
  have F_same := fun_mk (st := s_same) l_same c_same k_same
  have b_same := F_same.binds (ps := ["_law_found", "_law_due_here"]) fun _ _ _ _ _ _ us hl => match us, hl with | [_, _], _ => rfl
  have F_allw := fun_mk (st := s_all_words) l_allw c_allw k_allw
  have b_allw := F_allw.binds (ps := []) fun _ _ _ _ _ _ us hl => match us, hl with | [], _ => rfl
  have F_somew := fun_mk (st := s_some_words) l_somew c_somew k_somew
  have b_somew := F_somew.binds (ps := ["_law_state", "_law_many"]) fun _ _ _ _ _ _ us hl => match us, hl with | [_, _], _ => rfl
  have F_handed := fun_mk (st := s_handed) l_handed c_handed k_handed
  have b_handed := F_handed.binds (ps := ["_law_state", "_law_things"]) fun _ _ _ _ _ _ us hl => match us, hl with | [_, _], _ => rfl
  have F_odd := fun_mk (st := s_odd) l_odd c_odd k_odd
  have b_odd := F_odd.binds (ps := ["_law_state"]) fun _ _ _ _ _ _ us hl => match us, hl with | [_], _ => rfl
  have F_parts := fun_mk (st := s_parts) l_parts c_parts k_parts
  have b_parts := F_parts.binds (ps := []) fun _ _ _ _ _ _ us hl => match us, hl with | [], _ => rfl
  have F_field := fun_mk (st := s_field) l_field c_field k_field
  have b_field := F_field.binds (ps := ["_law_state", "_law_called"]) fun _ _ _ _ _ _ us hl => match us, hl with | [_, _], _ => rfl
  have F_rule := fun_mk (st := s_rule) l_rule c_rule k_rule
  have b_rule := F_rule.binds (ps := ["_law_state"]) fun _ _ _ _ _ _ us hl => match us, hl with | [_], _ => rfl
  have F_deep := fun_mk (st := s_deep) l_deep c_deep k_deep
  have b_deep := F_deep.binds (ps := ["_law_state", "_law_x"]) fun _ _ _ _ _ _ us hl => match us, hl with | [_, _], _ => rfl
  have F_isrow := fun_mk (st := s_is_row) l_isrow c_isrow k_isrow
  have b_isrow := F_isrow.binds (ps := ["x"]) fun _ _ _ _ _ _ us hl => match us, hl with | [_], _ => rfl
  have F_isword := fun_mk (st := s_is_word) l_isword c_isword k_isword
  have b_isword := F_isword.binds (ps := ["x"]) fun _ _ _ _ _ _ us hl => match us, hl with | [_], _ => rfl
  have F_RUinit := fun_mk (st := s_BadRule_init) l_RUinit c_RUinit k_RUinit
  have b_RUinit := F_RUinit.binds (ps := ["self", "index", "reason"]) fun _ _ _ _ _ _ us hl => match us, hl with | [_, _, _], _ => rfl
  have F_wrongw := fun_mk (st := s_wrong_with) l_wrongw c_wrongw k_wrongw
  have b_wrongw := F_wrongw.binds (ps := ["field", "names"]) fun _ _ _ _ _ _ us hl => match us, hl with | [_, _], _ => rfl
  have F_reqf := fun_mk (st := s_require_fields) l_reqf c_reqf k_reqf
  have b_reqf := F_reqf.binds (ps := ["fields"]) fun _ _ _ _ _ _ us hl => match us, hl with | [_], _ => rfl
  have F_pairs := fun_mk (st := s_is_pair_shown) l_pairs c_pairs k_pairs
  have b_pairs := F_pairs.binds (ps := ["show"]) fun _ _ _ _ _ _ us hl => match us, hl with | [_], _ => rfl
  have F_rlinit := fun_mk (st := s_Rule_init) l_rlinit c_rlinit k_rlinit
  have b_rlinit := F_rlinit.binds (ps := ["self", "fields", "show"]) fun _ _ _ _ _ _ us hl => match us, hl with | [_, _, _], _ => rfl
  have F_rlfields := fun_mk (st := s_Rule_fields) l_rlfields c_rlfields k_rlfields
  have b_rlfields := F_rlfields.binds (ps := ["self"]) fun _ _ _ _ _ _ us hl => match us, hl with | [_], _ => rfl
  have F_tried := fun_mk (st := s_tried) l_tried c_tried k_tried
  have b_tried := F_tried.binds (ps := ["_law_ask"]) fun _ _ _ _ _ _ us hl => match us, hl with | [_], _ => rfl
  have F_iswL := fun_mk (st := s_is_wordL) l_iswL c_iswL k_iswL
  have b_iswL := F_iswL.binds (ps := ["_law_x"]) fun _ _ _ _ _ _ us hl => match us, hl with | [_], _ => rfl
  have F_reason := fun_mk (st := s_reason) l_reason c_reason k_reason
  have b_reason := F_reason.binds (ps := ["_law_x", "_law_ahead"]) fun _ _ _ _ _ _ us hl => match us, hl with | [_, _], _ => rfl
  have F_due := fun_mk (st := s_due) l_due c_due k_due
  have b_due := F_due.binds (ps := ["_law_rows", "_law_shown"]) fun _ _ _ _ _ _ us hl => match us, hl with | [_, _], _ => rfl
  have F_wrong := fun_mk (st := s_wrong) l_wrong c_wrong k_wrong
  have b_wrong := F_wrong.binds (ps := ["_law_state", "_law_rows"]) fun _ _ _ _ _ _ us hl => match us, hl with | [_, _], _ => rfl
  have F_wr := fun_mk (st := s_written_right) l_wr c_wr k_wr
  have b_wr := F_wr.binds (ps := []) fun _ _ _ _ _ _ us hl => match us, hl with | [], _ => rfl
  have F_law := fun_mk (st := s_law) l_law c_law k_law
  refine ⟨PySem.W.fnOf "law" "law" (defArgs s_law) (defBody s_law) (defScope s_law) .none kV_law dc_law pm_law an_law (.ref Z_law) ct_law, [(Z_wr, Y_wr), (Z_law, Y_law)], spLawT K Y_wr Y_law, ?_, ?_, ?_, fun s v => .of_eq rfl, fun H a ns hl _ hT hS => ⟨a, ns, rfl, hS, hl, hT _ (List.mem_cons_self ..), hT _ (List.mem_cons_of_mem _ (List.mem_cons_self ..)), fun _ => rfl⟩, fun base _ _ hTB => ?_⟩
  · exact List.forall_mem_cons.mpr ⟨tz_wr, List.forall_mem_cons.mpr ⟨tz_law, fun _ h => nomatch h⟩⟩
  · exact List.forall_mem_cons.mpr ⟨nz_wr, List.forall_mem_cons.mpr ⟨nz_law, fun _ h => nomatch h⟩⟩
  · exact List.forall_mem_cons.mpr ⟨PySem.W.codeHd_of_K X hz_wr, List.forall_mem_cons.mpr ⟨PySem.W.codeHd_of_K X hz_law, fun _ h => nomatch h⟩⟩
  have TB_wr : LamX.TabB base mg Z_wr Y_wr := hTB (Z_wr, Y_wr) (by simp)
  have TB_law : LamX.TabB base mg Z_law Y_law := hTB (Z_law, Y_law) (by simp)
  have O_fresh : FnOk l.prog w K mg base CX0 1 f_fresh _ ["_law_script"] (spFresh K) := ok_fresh F_fresh T
  have D_fresh : DefOk l.prog w K mg base 1 "_law_fresh" f_fresh _ ["_law_script"] (spFresh K) := ⟨O_fresh, k_fresh, b_fresh, PySem.W.mg_of X G a_fresh⟩
  have O_fill : FnOk l.prog w K mg base CX0 1 f_fill _ ["_law_state"] spFill := ok_fill F_fill T
  have D_fill : DefOk l.prog w K mg base 1 "_law_fill" f_fill _ ["_law_state"] spFill := ⟨O_fill, k_fill, b_fill, PySem.W.mg_of X G a_fill⟩
  have O_take : FnOk l.prog w K mg base CX0 2 f_take _ ["_law_state", "_law_many"] spTake := ok_take F_take T D_fill
  have D_take : DefOk l.prog w K mg base 2 "_law_take" f_take _ ["_law_state", "_law_many"] spTake := ⟨O_take, k_take, b_take, PySem.W.mg_of X G a_take⟩
  have O_one : FnOk l.prog w K mg base CX0 3 f_one _ ["_law_state", "_law_things"] (spOneA K) := ok_oneA F_one T D_take
  have D_one : DefOk l.prog w K mg base 3 "_law_one" f_one _ ["_law_state", "_law_things"] (spOneA K) := ⟨O_one, k_one, b_one, PySem.W.mg_of X G a_one⟩
  have O_same : FnOk l.prog w K mg base CX0 5 f_same _ ["_law_found", "_law_due_here"] (spSame 5) := (ok_same (d := 4) F_same T ⟨(ok_same (d := 3) F_same T ⟨(ok_same (d := 2) F_same T ⟨(ok_same (d := 1) F_same T ⟨(ok_same (d := 0) F_same T ⟨(ok_none.imp fun _ _ _ _ ⟨_, _, _, h, _⟩ => h.elim), k_same, b_same, PySem.W.mg_of X G a_same⟩), k_same, b_same, PySem.W.mg_of X G a_same⟩), k_same, b_same, PySem.W.mg_of X G a_same⟩), k_same, b_same, PySem.W.mg_of X G a_same⟩), k_same, b_same, PySem.W.mg_of X G a_same⟩)
  have D_same : DefOk l.prog w K mg base 5 "_law_same" f_same _ ["_law_found", "_law_due_here"] (spSame 5) := ⟨O_same, k_same, b_same, PySem.W.mg_of X G a_same⟩
  have O_allw : FnOk l.prog w K mg base CX0 1 f_allw _ [] spAllW := ok_all_words F_allw T
  have D_all_words : DefOk l.prog w K mg base 1 "_law_all_words" f_allw _ [] spAllW := ⟨O_allw, k_allw, b_allw, PySem.W.mg_of X G a_allw⟩
  have O_somew : FnOk l.prog w K mg base CX0 3 f_somew _ ["_law_state", "_law_many"] spSomeWA := ok_some_wordsA F_somew T D_take D_all_words
  have D_some_words : DefOk l.prog w K mg base 3 "_law_some_words" f_somew _ ["_law_state", "_law_many"] spSomeWA := ⟨O_somew, k_somew, b_somew, PySem.W.mg_of X G a_somew⟩
  have O_handed : FnOk l.prog w K mg base CX0 3 f_handed _ ["_law_state", "_law_things"] spHanded := ok_handed F_handed T D_take
  have D_handed : DefOk l.prog w K mg base 3 "_law_handed" f_handed _ ["_law_state", "_law_things"] spHanded := ⟨O_handed, k_handed, b_handed, PySem.W.mg_of X G a_handed⟩
  have O_odd : FnOk l.prog w K mg base CX0 4 f_odd _ ["_law_state"] spOdd := ok_odd F_odd D_one
  have D_odd : DefOk l.prog w K mg base 4 "_law_odd" f_odd _ ["_law_state"] spOdd := ⟨O_odd, k_odd, b_odd, PySem.W.mg_of X G a_odd⟩
  have O_parts : FnOk l.prog w K mg base CX0 1 f_parts _ [] spParts := ok_parts F_parts
  have D_parts : DefOk l.prog w K mg base 1 "_law_parts" f_parts _ [] spParts := ⟨O_parts, k_parts, b_parts, PySem.W.mg_of X G a_parts⟩
  have O_field : FnOk l.prog w K mg base CX0 4 f_field _ ["_law_state", "_law_called"] spField := ok_field F_field T D_parts D_one
  have D_field : DefOk l.prog w K mg base 4 "_law_field" f_field _ ["_law_state", "_law_called"] spField := ⟨O_field, k_field, b_field, PySem.W.mg_of X G a_field⟩
  have O_rule : FnOk l.prog w K mg base CX0 5 f_rule _ ["_law_state"] spRule := ok_rule F_rule D_take D_some_words D_one D_field
  have D_rule : DefOk l.prog w K mg base 5 "_law_rule" f_rule _ ["_law_state"] spRule := ⟨O_rule, k_rule, b_rule, PySem.W.mg_of X G a_rule⟩
  have O_deep : FnOk l.prog w K mg base CX0 1 f_deep _ ["_law_state", "_law_x"] spDeep0 := ok_deep0 F_deep T
  have D_deep : DefOk l.prog w K mg base 1 "_law_deep" f_deep _ ["_law_state", "_law_x"] spDeep0 := ⟨O_deep, k_deep, b_deep, PySem.W.mg_of X G a_deep⟩
  have D_deepO : DefOk l.prog w K mg base 4 "_law_deep" f_deep _ ["_law_state", "_law_x"] spDeepO := ⟨ok_deepO F_deep T D_deep D_handed, k_deep, b_deep, PySem.W.mg_of X G a_deep⟩
  have D_deepR : DefOk l.prog w K mg base 5 "_law_deep" f_deep _ ["_law_state", "_law_x"] spDeepR := ⟨ok_deepR F_deep T D_deepO D_handed, k_deep, b_deep, PySem.W.mg_of X G a_deep⟩
  have D_deepL : DefOk l.prog w K mg base 6 "_law_deep" f_deep _ ["_law_state", "_law_x"] spDeepL := ⟨ok_deepL F_deep T D_deepR D_handed, k_deep, b_deep, PySem.W.mg_of X G a_deep⟩
  have O_isrow : FnOk l.prog w K mg base CX0 1 f_isrow _ ["x"] spIsRow := ok_is_row F_isrow T
  have D_is_row : DefOk l.prog w K mg base 1 "is_row" f_isrow _ ["x"] spIsRow := ⟨O_isrow, k_isrow, b_isrow, PySem.W.mg_of X G a_isrow⟩
  have D_is_rowA : DefOk l.prog w K mg base 1 "is_row" f_isrow _ ["x"] (spIsRowA K) := ⟨ok_is_rowA F_isrow T, k_isrow, b_isrow, PySem.W.mg_of X G a_isrow⟩
  have O_isword : FnOk l.prog w K mg base CX0 1 f_isword _ ["x"] spIsWord := ok_is_word F_isword T TC
  have D_is_word : DefOk l.prog w K mg base 1 "is_word" f_isword _ ["x"] spIsWord := ⟨O_isword, k_isword, b_isword, PySem.W.mg_of X G a_isword⟩
  have D_is_wordA : DefOk l.prog w K mg base 1 "is_word" f_isword _ ["x"] (spIsWordA K) := ⟨ok_is_wordA F_isword T TC, k_isword, b_isword, PySem.W.mg_of X G a_isword⟩
  have O_RUinit : FnOk l.prog w K mg base CX0 1 f_RUinit _ ["self", "index", "reason"] (spErrI2 C_RU "index" "reason") := ok_bad_rule F_RUinit TE_RU.T TE_RU.n1 TE_RU.n2
  have IE_RU : ErrI2 l.prog w K mg base C_RU f_RUinit _ "index" "reason" := ⟨O_RUinit, b_RUinit⟩
  have O_wrongw : FnOk l.prog w K mg base CX0 2 f_wrongw _ ["field", "names"] spWrongNo := ok_wrong_no F_wrongw T TR CC.at_ D_is_row D_is_word
  have D_wrong_with : DefOk l.prog w K mg base 2 "wrong_with" f_wrongw _ ["field", "names"] spWrongNo := ⟨O_wrongw, k_wrongw, b_wrongw, PySem.W.mg_of X G a_wrongw⟩
  have D_wrong_withA : DefOk l.prog w K mg base 2 "wrong_with" f_wrongw _ ["field", "names"] (spWrongA K) := ⟨ok_wrong_any F_wrongw T TR CC D_is_rowA D_is_wordA, k_wrongw, b_wrongw, PySem.W.mg_of X G a_wrongw⟩
  have O_reqf : FnOk l.prog w K mg base CX0 3 f_reqf _ ["fields"] spReqFields := ok_req_fields F_reqf T D_is_row D_wrong_with
  have D_require_fields : DefOk l.prog w K mg base 3 "require_fields" f_reqf _ ["fields"] spReqFields := ⟨O_reqf, k_reqf, b_reqf, PySem.W.mg_of X G a_reqf⟩
  have DX_require_fields : DefOkX l.prog w K mg base 3 "require_fields" f_reqf _ ["fields"] (spReqX K C_RU) := ⟨ok_req_any F_reqf T TE_RU IE_RU D_is_rowA D_wrong_withA, k_reqf, b_reqf, PySem.W.mg_of X G a_reqf⟩
  have O_pairs : FnOk l.prog w K mg base CX0 2 f_pairs _ ["show"] spPairS := ok_pair_shown F_pairs T TR hW D_is_row D_is_word
  have D_is_pair_shown : DefOk l.prog w K mg base 2 "is_pair_shown" f_pairs _ ["show"] spPairS := ⟨O_pairs, k_pairs, b_pairs, PySem.W.mg_of X G a_pairs⟩
  have D_is_pair_shownX : DefOk l.prog w K mg base 2 "is_pair_shown" f_pairs _ ["show"] (spPairX K) := ⟨ok_pair_x F_pairs T TR hW D_is_rowA D_is_wordA, k_pairs, b_pairs, PySem.W.mg_of X G a_pairs⟩
  have O_rlinit : FnOk l.prog w K mg base CX0 4 f_rlinit _ ["self", "fields", "show"] (spRlInit C_Rule) := ok_rl_init F_rlinit T WR D_require_fields D_is_pair_shown
  have K_Rule : ClsOk l.prog w K mg base 4 "Rule" C_Rule f_rlinit _ ["self", "fields", "show"] (spRlInit C_Rule) := ⟨O_rlinit, b_rlinit, ⟨mk_Rule, a_rlinit, i_rlinit, kc_Rule⟩, cl_Rule, mg_Rule⟩
  have KX_Rule : ClsOkX l.prog w K mg base 4 "Rule" C_Rule f_rlinit _ ["self", "fields", "show"] (spRlE K C_Rule C_RU) := ⟨ok_rl_initE F_rlinit T WR TE_RU IE_RU D_require_fields D_is_pair_shown DX_require_fields D_is_pair_shownX, b_rlinit, ⟨mk_Rule, a_rlinit, i_rlinit, kc_Rule⟩, cl_Rule, mg_Rule⟩
  have O_rlfields : FnOk l.prog w K mg base CX0 1 f_rlfields _ ["self"] (spRlFields C_Rule) := ok_rl_fields F_rlfields T WR
  have M_Rule_fields : MetOk l.prog w K mg base 1 C_Rule "fields" f_rlfields _ ["self"] (spRlFields C_Rule) := ⟨O_rlfields, b_rlfields, ⟨a_rlfields, i_rlfields, k_rlfields⟩, cl_Rule⟩
  have O_iswL : FnOk l.prog w K mg base CX0 1 f_iswL _ ["_law_x"] (spIsWordA K) := ok_is_wordL F_iswL T
  have D_is_wordL : DefOk l.prog w K mg base 1 "_law_is_word" f_iswL _ ["_law_x"] (spIsWordA K) := ⟨O_iswL, k_iswL, b_iswL, PySem.W.mg_of X G a_iswL⟩
  have O_reason : FnOk l.prog w K mg base CX0 2 f_reason _ ["_law_x", "_law_ahead"] (spReason K) := ok_reason F_reason T D_is_wordL D_parts
  have D_reason : DefOk l.prog w K mg base 2 "_law_reason" f_reason _ ["_law_x", "_law_ahead"] (spReason K) := ⟨O_reason, k_reason, b_reason, PySem.W.mg_of X G a_reason⟩
  have O_due : FnOk l.prog w K mg base CX0 3 f_due _ ["_law_rows", "_law_shown"] (spDue K) := ok_due F_due T D_reason
  have D_due : DefOk l.prog w K mg base 3 "_law_due" f_due _ ["_law_rows", "_law_shown"] (spDue K) := ⟨O_due, k_due, b_due, PySem.W.mg_of X G a_due⟩
  have O_wrong : FnOk l.prog w K mg base CX0 5 f_wrong _ ["_law_state", "_law_rows"] spWrong22 := ok_wrong F_wrong T D_take D_one D_odd
  have D_wrong : DefOk l.prog w K mg base 5 "_law_wrong" f_wrong _ ["_law_state", "_law_rows"] spWrong22 := ⟨O_wrong, k_wrong, b_wrong, PySem.W.mg_of X G a_wrong⟩
  have O_wr : FnOk l.prog w K mg base CX0 8 f_wr _ [] (spWr22 [(Y_wr, qw22), (Y_law, ql22)]) := ok_written22 F_wr rfl T F_tried b_tried (PySem.W.mg_of X G a_tried) TE_RU M_Rule_fields TB_wr (List.mem_cons_self ..) hu_wr KX_Rule D_same
  have D_written_right : DefOk l.prog w K mg base 8 "_law_written_right" f_wr _ [] (spWr22 [(Y_wr, qw22), (Y_law, ql22)]) := ⟨O_wr, k_wr, b_wr, PySem.W.mg_of X G a_wr⟩
  exact ok_law F_law rfl T TRP F_tried b_tried (PySem.W.mg_of X G a_tried) TE_RU TB_law (List.mem_cons_of_mem _ (List.mem_cons_self ..)) hu_law D_fresh D_take D_one D_rule D_field D_wrong D_deepL D_due D_same D_written_right KX_Rule M_Rule_fields
theorem walk {l : PySem.W.OpenLaw} {q : Program} {loose : List Str} {XP : (Str → Option Value) → Heap → Prop} {YP : World → Heap → Prop} {d : DefRec} {K : Params → PySem.W.Frag} (hn : l.most = some 63) (hdf : d.params.defaults = [])
    (hY : ∀ (w : World) (h : Heap), YP w h → (K w.params).In h)
    (F : ∀ (w : World) (mg : Str → Option Value) (fa : Addr) (h : Heap), YP w h → (K w.params).In h → h.Ns mainGlobals mg → mg d.name = some (.ref fa) → LawAtG l w (K w.params) 10 63 "_law_script" mg fa h) :
    PySem.W.WalkO q loose XP YP l.row.toRowW d [] (fun f vs => PySem.call f vs) :=
  walk_ofG (n := 63) (k := 10) (x := "_law_script") hn (by decide) hdf ⟨rfl, by decide, by decide⟩ hY F
end Lm

open PySem PySem.W PyProof.Rows
set_option maxRecDepth 100000 in
set_option maxHeartbeats 0 in
theorem PySem.Challenge.cw_leafmarks_k22_rules_refused_holds : PySem.Challenge.rw_leafmarks_k22_rules_refused.Holds := by
  w_on; o_law; k_head; (case hw => w_witness2)
  k_fill
  refine Lm.walk (l := PySem.Challenge.rw_leafmarks_k22_rules_refused) rfl rfl (fun w h Y => PySem.W.km_in_of Y) ?F
  case F =>
    intro w mg fa h YY KX G hmg
    refine' Lm.all_mk KX G hmg ?a_Rule ?pg_Rule ?hd_Rule ?po_Rule ?sa_Rule ?mk_Rule ?kc_Rule ?n_Rule_rows ?n_Rule_way ?n_Rule_at ?a_fresh ?l_fresh ?c_fresh ?k_fresh ?a_fill ?l_fill ?c_fill ?k_fill ?a_take ?l_take ?c_take ?k_take ?a_one ?l_one ?c_one ?k_one ?a_same ?l_same ?c_same ?k_same ?a_allw ?l_allw ?c_allw ?k_allw ?a_somew ?l_somew ?c_somew ?k_somew ?a_handed ?l_handed ?c_handed ?k_handed ?a_odd ?l_odd ?c_odd ?k_odd ?a_parts ?l_parts ?c_parts ?k_parts ?a_field ?l_field ?c_field ?k_field ?a_rule ?l_rule ?c_rule ?k_rule ?a_deep ?l_deep ?c_deep ?k_deep ?a_isrow ?l_isrow ?c_isrow ?k_isrow ?a_isword ?l_isword ?c_isword ?k_isword ?aRU ?oRU ?rRU ?sRU ?bRU ?tRU ?kRU ?gaRU ?ggRU ?hdRU ?iRU ?tyRU ?icRU ?seRU ?noRU ?npRU ?l_RUinit ?c_RUinit ?k_RUinit ?a_wrongw ?l_wrongw ?c_wrongw ?k_wrongw ?a_reqf ?l_reqf ?c_reqf ?k_reqf ?a_pairs ?l_pairs ?c_pairs ?k_pairs ?a_rlinit ?i_rlinit ?l_rlinit ?c_rlinit ?k_rlinit ?a_rlfields ?i_rlfields ?l_rlfields ?c_rlfields ?k_rlfields ?a_tried ?l_tried ?c_tried ?k_tried ?a_iswL ?l_iswL ?c_iswL ?k_iswL ?a_reason ?l_reason ?c_reason ?k_reason ?a_due ?l_due ?c_due ?k_due ?a_wrong ?l_wrong ?c_wrong ?k_wrong ?a_wr ?l_wr ?c_wr ?k_wr ?lz_wr ?vz_wr ?hz_wr ?nz_wr ?tz_wr ?a_law ?l_law ?c_law ?k_law ?lz_law ?vz_law ?hz_law ?nz_law ?tz_law ?g_LETTERS ?g_LONGEST_WORD ?g_MOST_FIELDS ?g_COLUMNS ?g_WAYS ?z_len ?z_int ?z_range ?z_enumerate ?z_isinstance ?z_list ?z_tuple ?z_str ?z_bool ?z_all ?z_max ?z_zip ?kW0 ?kC0 ?kc1 ?kc2 ?kc3 ?kc4 ?kc5 ?kc6 ?ke1 ?ke2 ?ke3 ?ke4 ?ke5 ?ke6 ?z_repr ?dd12
    (case a_Rule => k_is)
    (case pg_Rule => k_is)
    (case hd_Rule => k_is)
    (case po_Rule => k_is)
    (case sa_Rule => k_is)
    (case mk_Rule => k_is)
    (case kc_Rule => k_is)
    (case n_Rule_rows => k_is)
    (case n_Rule_way => k_is)
    (case n_Rule_at => k_is)
    (case a_fresh => k_is)
    (case l_fresh => k_is)
    (case c_fresh => k_is)
    (case k_fresh => k_is)
    (case a_fill => k_is)
    (case l_fill => k_is)
    (case c_fill => k_is)
    (case k_fill => k_is)
    (case a_take => k_is)
    (case l_take => k_is)
    (case c_take => k_is)
    (case k_take => k_is)
    (case a_one => k_is)
    (case l_one => k_is)
    (case c_one => k_is)
    (case k_one => k_is)
    (case a_same => k_is)
    (case l_same => k_is)
    (case c_same => k_is)
    (case k_same => k_is)
    (case a_allw => k_is)
    (case l_allw => k_is)
    (case c_allw => k_is)
    (case k_allw => k_is)
    (case a_somew => k_is)
    (case l_somew => k_is)
    (case c_somew => k_is)
    (case k_somew => k_is)
    (case a_handed => k_is)
    (case l_handed => k_is)
    (case c_handed => k_is)
    (case k_handed => k_is)
    (case a_odd => k_is)
    (case l_odd => k_is)
    (case c_odd => k_is)
    (case k_odd => k_is)
    (case a_parts => k_is)
    (case l_parts => k_is)
    (case c_parts => k_is)
    (case k_parts => k_is)
    (case a_field => k_is)
    (case l_field => k_is)
    (case c_field => k_is)
    (case k_field => k_is)
    (case a_rule => k_is)
    (case l_rule => k_is)
    (case c_rule => k_is)
    (case k_rule => k_is)
    (case a_deep => k_is)
    (case l_deep => k_is)
    (case c_deep => k_is)
    (case k_deep => k_is)
    (case a_isrow => k_is)
    (case l_isrow => k_is)
    (case c_isrow => k_is)
    (case k_isrow => k_is)
    (case a_isword => k_is)
    (case l_isword => k_is)
    (case c_isword => k_is)
    (case k_isword => k_is)
    (case aRU => k_is)
    (case oRU => k_is)
    (case rRU => rfl)
    (case sRU => k_is)
    (case bRU => k_is)
    (case tRU => k_is)
    (case kRU => k_is)
    (case gaRU => k_is)
    (case ggRU => k_is)
    (case hdRU => k_is)
    (case iRU => k_is)
    (case tyRU => k_is)
    (case icRU => k_is)
    (case seRU => k_is)
    (case noRU => k_is)
    (case npRU => k_is)
    (case l_RUinit => k_is)
    (case c_RUinit => k_is)
    (case k_RUinit => k_is)
    (case a_wrongw => k_is)
    (case l_wrongw => k_is)
    (case c_wrongw => k_is)
    (case k_wrongw => k_is)
    (case a_reqf => k_is)
    (case l_reqf => k_is)
    (case c_reqf => k_is)
    (case k_reqf => k_is)
    (case a_pairs => k_is)
    (case l_pairs => k_is)
    (case c_pairs => k_is)
    (case k_pairs => k_is)
    (case a_rlinit => k_is)
    (case i_rlinit => k_is)
    (case l_rlinit => k_is)
    (case c_rlinit => k_is)
    (case k_rlinit => k_is)
    (case a_rlfields => k_is)
    (case i_rlfields => k_is)
    (case l_rlfields => k_is)
    (case c_rlfields => k_is)
    (case k_rlfields => k_is)
    (case a_tried => k_is)
    (case l_tried => k_is)
    (case c_tried => k_is)
    (case k_tried => k_is)
    (case a_iswL => k_is)
    (case l_iswL => k_is)
    (case c_iswL => k_is)
    (case k_iswL => k_is)
    (case a_reason => k_is)
    (case l_reason => k_is)
    (case c_reason => k_is)
    (case k_reason => k_is)
    (case a_due => k_is)
    (case l_due => k_is)
    (case c_due => k_is)
    (case k_due => k_is)
    (case a_wrong => k_is)
    (case l_wrong => k_is)
    (case c_wrong => k_is)
    (case k_wrong => k_is)
    (case a_wr => k_is)
    (case l_wr => k_is)
    (case c_wr => k_is)
    (case k_wr => k_is)
    (case lz_wr => k_is)
    (case vz_wr => rfl)
    (case hz_wr => kernel_rfl)
    (case nz_wr => first | k_is | kernel_rfl)
    (case tz_wr => exact PySem.W.km_tabs_of YY _ (by k_mem))
    (case a_law => k_is)
    (case l_law => k_is)
    (case c_law => k_is)
    (case k_law => k_is)
    (case lz_law => k_is)
    (case vz_law => rfl)
    (case hz_law => kernel_rfl)
    (case nz_law => first | k_is | kernel_rfl)
    (case tz_law => exact PySem.W.km_tabs_of YY _ (by k_mem))
    (case g_LETTERS => k_is)
    (case g_LONGEST_WORD => k_is)
    (case g_MOST_FIELDS => k_is)
    (case g_COLUMNS => k_is)
    (case g_WAYS => k_is)
    (case z_len => k_is)
    (case z_int => k_is)
    (case z_range => k_is)
    (case z_enumerate => k_is)
    (case z_isinstance => k_is)
    (case z_list => k_is)
    (case z_tuple => k_is)
    (case z_str => k_is)
    (case z_bool => k_is)
    (case z_all => k_is)
    (case z_max => k_is)
    (case z_zip => k_is)
    (case kW0 => k_is)
    (case kC0 => k_is)
    (case kc1 => k_is)
    (case kc2 => k_is)
    (case kc3 => k_is)
    (case kc4 => k_is)
    (case kc5 => k_is)
    (case kc6 => k_is)
    (case ke1 => k_is)
    (case ke2 => k_is)
    (case ke3 => k_is)
    (case ke4 => k_is)
    (case ke5 => k_is)
    (case ke6 => k_is)
    (case z_repr => k_is)
    (case dd12 => exact (by decide))
