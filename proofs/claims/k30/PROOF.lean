import PyProof.Rows.All
import Wide.All
import OpenK.AllK
import Wide.FinOn
import PyProof.EqKinds
import HandS.ForMost
import HandS.IsInst
import HandS.OwnEq
import PyProof.InstNe
import PyProof.Draws
import KE.GoesEnum
import KE.GoesMore
import KE.KOpsOwn
import HandS.Walk
import HandS.Conv
import HandS.Evl
import HandS.Zip
import HandS.Property
import HandS.MakeKwOnly
import HandS.Style
import HandS.WordsExc
import HandS.ExcOwn
import HandS.TryOnly
import HandS.TupMul
import HandS.ExcInit
import HandS.ExcField
import HandS.DictComp
import KE.KCallOwn
import HandS.Lambda
import HandS.TryMany
import HandS.EndTab
import KE.KNestM
import HandS.Wide
import HandS.Zip
import HandS.TupAny
import KE.GoesEnum
import HandS.Property
import HandS.Nested
import HandS.NestedK
import HandS.ClsMeth
import PyProof.CollectIter
import KE.GoesEnumKw
import PyProof.StrOps2
import HandS.Text
import HandS.StrMore
import HandS.RaiseMore
import HandS.FStr
import HandS.Star
import HandS.Dict
import KE.IntTextLaws
import KE.IntTextText
import PyProof.Rows.StrCut
import HandS.MakeKwOnly
import HandS.Walk
import PySem.Challenge.RW_leafmarks_k30_history_texts
set_option Elab.async false
set_option linter.all false
set_option maxRecDepth 100000
set_option maxHeartbeats 16000000
namespace Lm
open PySem L2
section
variable {X : Cx} {CX : CXT} {k : Nat} {f C : Addr} {fd : FuncData} {ps : List Str} {sp : Sp} {E : XK} {pins : List (Addr × Obj)} {σ : St} {H : Hp} {s : Shared}
/-- the callee runs under another around of the same frames -/
theorem run_in {A : Around} {Q : VK} {us : List Value} {vs : List V} (F : FnOk X.prog X.w X.K X.mg X.base CX k f fd ps sp) (hr : Room k A) (e0 : Env0 X.prog X.w X.K X.mg X.base A X.stack s H) (hb : Binds X.K fd ps [])
    (hx : Passes CX X E) (I : Inv X pins σ H s) (r : Vals vs us) (h : sp vs H Q E) : wpAny (model X.prog X.w) A (call (.ref f) us) (EP X pins σ Q) X.xe s := by
  have hl : us.length = ps.length := by rw [← r.length]; exact F.len _ _ _ _ h
  have hb' : BindsTo s fd ⟨us, []⟩ (ps.zip us) := by
    have := hb s us I.kIn (by simpa using hl)
    simpa using this
  refine wpAny_call (codeAny_mono (F.run A X.stack s H ⟨us, []⟩ us vs Q E hr e0 hb' r h) fun r s' hq => ?_)
  cases r with
  | error e => exact hx pins σ H s e s' I hq
  | ok fl =>
    cases fl with
    | ret u => exact I.after hq
    | next => exact False.elim hq
    | brk => exact False.elim hq
    | cont => exact False.elim hq
/-- len(x), x an instance with its own __len__ -/
def rLenOwn (C : Addr) (sp : Sp) (E : XK) : List V → Hp → VK → Prop := fun xs H Q => ∃ a dx fs, xs = [.ref a] ∧ H a = some (.ins C dx fs) ∧
  sp [.ref a] H (fun z H' => ∃ n : Nat, z = .int n ∧ n < 2 ^ 62 ∧ Q (.int n) H') E
theorem call_lenOwn (F : FnOk X.prog X.w X.K X.mg X.base CX k f fd ps sp) (hs : PySem.W.findIn X.K (.ref C) "__len__" = some (some (.ref f))) (hf : PySem.W.isFn X.K (.ref f) = true) (hb : Binds X.K fd ps []) (hr : Room (k + 1) X.A) (hx : Passes CX X E) :
    CallR X (.builtin "len") (rLenOwn C sp E) := by
  intro pins s σ H xs us Q I r h
  obtain ⟨a, dx, fs, rfl, ha, q⟩ := h
  obtain ⟨u, rfl, ru⟩ := r.one
  cases (show u = Value.ref a from ru)
  obtain ⟨mA, J, _⟩ := ins_get I.hok ha
  obtain ⟨od, J, _⟩ := J.look
  obtain ⟨m, hF⟩ := I.fr
  refine PySem.W.len_K hF I.ok.mod.kin J hs hf (wpAny_mono (run_in (us := [.ref a]) (vs := [.ref a]) F hr.in1 I.env0.in1 hb hx I (.cons rfl .nil) q) (fun w s' z => ?_) fun _ _ x => x)
  obtain ⟨z', H', I', rz, n, ez, hn, qz⟩ := z
  subst ez
  obtain ⟨t, e⟩ := (show ∃ t, w = Value.int n t from rz)
  subst e
  refine ⟨⟨by omega, by omega⟩, .int n, H', I'.tok _, ⟨_, rfl⟩, qz⟩
/-- x in y, y an instance with its own __contains__ -/
def rInOwn (C : Addr) (sp : Sp) (E : XK) (neg : Bool) : R2 := fun x y H Q => ∃ a dx fs, y = .ref a ∧ H a = some (.ins C dx fs) ∧
  sp [y, x] H (fun z H' => ∃ b : Bool, z = .bl b ∧ Q (.bl (if neg then !b else b)) H') E
theorem op_inOwn (F : FnOk X.prog X.w X.K X.mg X.base CX k f fd ps sp) (hs : PySem.W.findIn X.K (.ref C) "__contains__" = some (some (.ref f))) (hf : PySem.W.isFn X.K (.ref f) = true) (hb : Binds X.K fd ps []) (hr : Room k X.A) (hx : Passes CX X E) :
    OpR X (compareOp .In) (rInOwn C sp E false) := by
  intro pins s σ H x y v u Q I rx ry h
  obtain ⟨a, dx, fs, rfl, ha, q⟩ := h
  cases (show u = Value.ref a from ry)
  obtain ⟨mA, J, _⟩ := ins_get I.hok ha
  obtain ⟨od, J, _⟩ := J.look
  obtain ⟨m, hF⟩ := I.fr
  refine PySem.W.in_K hF I.ok.mod.kin J hs hf (wpAny_mono (run_in (us := [.ref a, v]) (vs := [.ref a, x]) F hr I.env0 hb hx I (.cons rfl (.cons rx .nil)) q) (fun w s' z => ?_) fun _ _ x => x)
  obtain ⟨z', H', I', rz, b, ez, qz⟩ := z
  subst ez
  cases (show w = Value.bool b from rz)
  exact wpAny_truthy_bool ⟨.bl _, H', I', rfl, qz⟩
theorem op_notInOwn (F : FnOk X.prog X.w X.K X.mg X.base CX k f fd ps sp) (hs : PySem.W.findIn X.K (.ref C) "__contains__" = some (some (.ref f))) (hf : PySem.W.isFn X.K (.ref f) = true) (hb : Binds X.K fd ps []) (hr : Room k X.A) (hx : Passes CX X E) :
    OpR X (compareOp .NotIn) (rInOwn C sp E true) := by
  intro pins s σ H x y v u Q I rx ry h
  obtain ⟨a, dx, fs, rfl, ha, q⟩ := h
  cases (show u = Value.ref a from ry)
  obtain ⟨mA, J, _⟩ := ins_get I.hok ha
  obtain ⟨od, J, _⟩ := J.look
  obtain ⟨m, hF⟩ := I.fr
  refine PySem.W.notIn_K hF I.ok.mod.kin J hs hf (wpAny_mono (run_in (us := [.ref a, v]) (vs := [.ref a, x]) F hr I.env0 hb hx I (.cons rfl (.cons rx .nil)) q) (fun w s' z => ?_) fun _ _ x => x)
  obtain ⟨z', H', I', rz, b, ez, qz⟩ := z
  subst ez
  cases (show w = Value.bool b from rz)
  exact wpAny_truthy_bool ⟨.bl _, H', I', rfl, qz⟩
theorem cmpBack {P : Value → Shared → Prop} {z : V} {v : Value} {s' : Shared} (r : RelV z v) (h : P v s') : PySem.W.CmpBack P v s' := by
  cases z with
  | non => cases (show v = Value.none from r); exact h
  | bl b => cases (show v = Value.bool b from r); exact h
  | int i => obtain ⟨t, e⟩ := (show ∃ t, v = Value.int i t from r); cases e; exact h
  | str i => obtain ⟨t, e⟩ := (show ∃ t, v = Value.str i t from r); cases e; exact h
  | byt i => obtain ⟨t, e⟩ := (show ∃ t, v = Value.bytes i t from r); cases e; exact h
  | flt i => obtain ⟨t, e⟩ := (show ∃ t, v = Value.float i t from r); cases e; exact h
  | ref a => cases (show v = Value.ref a from r); exact h
  | ty n => cases (show v = Value.type n from r); exact h
/-- x op y, both instances of the class at C that has its own def for it -/
def rBinOwn (C : Addr) (sp : Sp) (E : XK) : R2 := fun x y H Q => ∃ a dx fs b dy gs, x = .ref a ∧ y = .ref b ∧ H a = some (.ins C dx fs) ∧ H b = some (.ins C dy gs) ∧ sp [x, y] H Q E
theorem op_binOwn {op : Operator} (F : FnOk X.prog X.w X.K X.mg X.base CX k f fd ps sp) (hc : PySem.W.selfFirst X.K C = true) (hs : PySem.W.findIn X.K (.ref C) (PySem.dunder op.info.2) = some (some (.ref f))) (hf : PySem.W.isFn X.K (.ref f) = true) (hb : Binds X.K fd ps []) (hr : Room k X.A) (hx : Passes CX X E) :
    OpR X (binaryOp op) (rBinOwn C sp E) := by
  intro pins s σ H x y v u Q I rx ry h
  obtain ⟨a, dx, fs, b, dy, gs, rfl, rfl, ha, hb', q⟩ := h
  cases (show v = Value.ref a from rx)
  cases (show u = Value.ref b from ry)
  obtain ⟨mA, J, _⟩ := ins_get I.hok ha
  obtain ⟨mB, J', _⟩ := ins_get I.hok hb'
  obtain ⟨od, J, _⟩ := J.look
  obtain ⟨od', J', _⟩ := J'.look
  obtain ⟨m, hF⟩ := I.fr
  refine PySem.W.binop_K hF I.ok.mod.kin J J'.type hc hs hf (wpAny_mono (run_in (us := [.ref a, .ref b]) (vs := [.ref a, .ref b]) F hr I.env0 hb hx I (.cons rfl (.cons rfl .nil)) q) (fun w s' z => ?_) fun _ _ x => x)
  obtain ⟨z', H', I', rz, qz⟩ := z
  exact cmpBack rz ⟨z', H', I', rz, qz⟩
theorem op_cmpOwn {op : CmpOp} (hop : ∀ a b, compareOp op a b = richCompare op a b) (F : FnOk X.prog X.w X.K X.mg X.base CX k f fd ps sp) (hs : PySem.W.findIn X.K (.ref C) (cmpInfo op).2.1 = some (some (.ref f))) (hf : PySem.W.isFn X.K (.ref f) = true) (hb : Binds X.K fd ps []) (hr : Room k X.A) (hx : Passes CX X E) :
    OpR X (compareOp op) (rBinOwn C sp E) := by
  intro pins s σ H x y v u Q I rx ry h
  obtain ⟨a, dx, fs, b, dy, gs, rfl, rfl, ha, hb', q⟩ := h
  cases (show v = Value.ref a from rx)
  cases (show u = Value.ref b from ry)
  obtain ⟨mA, J, _⟩ := ins_get I.hok ha
  obtain ⟨mB, J', _⟩ := ins_get I.hok hb'
  obtain ⟨od, J, _⟩ := J.look
  obtain ⟨od', J', _⟩ := J'.look
  obtain ⟨m, hF⟩ := I.fr
  rw [hop]
  refine PySem.W.cmp_K (op := op) (tb := .ref C) hr.units0 hF I.ok.mod.kin J J'.type (by simp [PySem.W.notFirst]) hs hf (wpAny_mono (run_in (us := [.ref a, .ref b]) (vs := [.ref a, .ref b]) F hr I.env0 hb hx I (.cons rfl (.cons rfl .nil)) q) (fun w s' z => ?_) fun _ _ x => x)
  obtain ⟨z', H', I', rz, qz⟩ := z
  exact cmpBack rz ⟨z', H', I', rz, qz⟩
end
end Lm

namespace Lm
open PySem PySem.W PySem.Calls PyProof.Rows
section
variable {prog : Program} {w : World} {A : Around} {E : Value → Shared → Prop} {s : Shared} {K : Frag} {x C L f : Addr} {h₀ : Heap} {m : Str → Option Value} {ox : Obj} {od : Option Obj} {b tb : Value}
/-- != of an instance whose class has an own == and no own != -/
theorem ne_own {Q : Value → Shared → Prop} (hu : A.units + 1 < cLine) (Fr' : Fr h₀ L s.heap m) (X₀ : K.In h₀) (I : InstAt s.heap x ox C od) (hb : Looks (model prog w) s.heap (typeOf b) tb) (hn : notFirst K C tb = true)
    (hne : findIn K (.ref C) "__ne__" = some (some (.builtin "object.__ne__"))) (hobj : subIn K (.ref C) (.type "object") = some true)
    (hs : findIn K (.ref C) "__eq__" = some (some (.ref f))) (hf : isFn K (.ref f) = true)
    (h : wpAny (model prog w) A.in1 (call (.ref f) [.ref x, b]) (fun v s' => ∃ k, v = .bool k ∧ Q (.bool (!k)) s') E s) : wpAny (model prog w) A (richCompare .NotEq (.ref x) b) Q E s := by
  have X := X₀.keeps Fr'.keep
  have fin : ∀ (Q' : Option Value → Shared → Prop), (∀ k s', Q (.bool (!k)) s' → Q' (some (.bool (!k))) s') →
      wpAny (model prog w) A (call (.builtin "object.__ne__") ([.ref x] ++ [b]) >>= fun v => pure (some v)) Q' E s := by
    intro Q' hQ
    refine wpAny_bind (wpAny_call (codeAny_call_builtin PySem.F.cmp_object.ne.plain PySem.F.cmpEntry_ne ?_))
    refine @check_slot (model prog w) _ _ _ "object.__ne__" "object" "__ne__" (.ref x) [b] [] _ PySem.F.cmpKind_ne PySem.F.cmpSplit_ne (I.type.andThen (looks_subIn X hobj)) (PySem.F.cmpArgs_ne _ _) ?_
    unfold Builtin.«object.__ne__»
    repeat (first
      | with_reducible refine wpAny_cRoomFor hu ?_
      | (refine wpAny_bind (m := callSpecialIfBound? (.ref x) (Str.ofString "__eq__") [b])
          (ifBound_K X I hs hf (wpAny_mono h (fun r s' hr => by
            obtain ⟨k, rfl, hq⟩ := hr
            repeat (first | exact ⟨_, rfl, wpAny_pure (hQ k s' hq)⟩ | exact wpAny_pure (hQ k s' hq) | exact hQ k s' hq | exact wpAny_truthy_bool (hQ k s' hq) | (refine wpAny_bind (m := truthy (.bool _)) (wpAny_truthy_bool ?_)) | wp_step)) fun _ _ e => e)))
      | wp_step)
  have one : wpAny (model prog w) A (tryCompare (.ref x) "__ne__" b) (fun r s' => ∃ v, r = some v ∧ Q v s') E s := by
    simp only [tryCompare]
    refine wpAny_bind ?_
    simp only [callSpecialIfBound?, bindSpecialIfBound?]
    refine wpAny_holding (wpAny_bind (wpAny_bind (wpAny_bind (I.type.here ((looks_findIn X hne).here ?_)))))
    refine wpAny_bind (wpAny_askSetting (wpAny_ite ?_))
    split
    · refine wpAny_bind ?_
      rw [PySem.F.cmp_object.ne.bind]
      refine wpAny_pure (wpAny_pure ?_)
      show wpAny _ _ (call _ _ >>= fun v => pure (some v)) _ _ _
      exact fin _ fun k s' q => wpAny_pure ⟨_, rfl, q⟩
    · refine wpAny_tryCatch (wpAny_bind ?_)
      rw [PySem.F.cmp_object.ne.bind]
      refine wpAny_pure (wpAny_pure ?_)
      show wpAny _ _ (call _ _ >>= fun v => pure (some v)) _ _ _
      exact fin _ fun k s' q => wpAny_pure ⟨_, rfl, q⟩
  unfold richCompare
  simp only [oneThing_ref]
  refine wpAny_holding (wpAny_bind (wpAny_cRoomFor (Nat.lt_of_succ_lt hu) ?_))
  refine wpAny_bind (I.type.here (wpAny_bind (hb.here ?_)))
  split
  · rename_i q
    have e : subIn K tb (.ref C) = some false := by
      rcases Bool.or_eq_true_iff.mp hn with e | e
      · rw [beq_iff_eq.mp e] at q; simp at q
      · exact beq_iff_eq.mp e
    refine wpAny_bind ((looks_subIn X e).here ?_)
    simp only [Bool.false_eq_true, if_false]
    refine wpAny_bind (wpAny_mono one (fun r s' z => ?_) fun _ _ e => e)
    obtain ⟨v, rfl, hq⟩ := z
    exact wpAny_pure hq
  · refine wpAny_bind (wpAny_pure ?_)
    simp only [Bool.false_eq_true, if_false]
    refine wpAny_bind (wpAny_mono one (fun r s' z => ?_) fun _ _ e => e)
    obtain ⟨v, rfl, hq⟩ := z
    exact wpAny_pure hq
end
end Lm

namespace Lm
open PySem PySem.W PySem.Calls PyProof.Rows Builtin
theorem meets_enum1 {v : Value} {o : Obj} {H : Heap → Prop} (B : Begins v o H) :
    Meets (Builtin.«enumerate.__new__» ⟨[.type "enumerate", v], []⟩) (fun _ R s => H s.heap ∧
      R (.ok (.ret (.ref (s.heap.push o).objs.size))) { s with heap := (s.heap.push o).push { cls := .type "enumerate", data := .fields #[.none, .bool false, .ref s.heap.objs.size, rawInt 0, .none, .none] } }) :=
  .of_wp fun prog w A R s ⟨h1, h⟩ => by
    obtain ⟨hp, g, d, tk, os⟩ := s
    have hsub := sub_enumerate
    have q1 : ∀ {A' : Around} {E : Value → Shared → Prop} {Q : Value → Shared → Prop}, Q (.ref hp.objs.size) ⟨hp.push o, g, d, tk, os⟩ → wpAny (model prog w) A' (pyIter v) Q E ⟨hp, g, d, tk, os⟩ :=
      fun q => B.iter prog w _ _ ⟨hp, g, d, tk, os⟩ _ h1 q
    wp_walk using q1
    refine wpAny_stack_any fun st => wpAny_pure ?_
    split
    · rename_i c _ _ _ _ _
      cases (c == Value.type "enumerate")
      · wp_walk using q1
        exact ⟨_, rfl, h⟩
      · wp_walk using q1
        exact ⟨_, rfl, h⟩
    · wp_walk using q1
      exact ⟨_, rfl, h⟩
section
variable {prog : Program} {w : World} {A : Around} {E : Value → Shared → Prop} {s : Shared}
theorem call_enum1 {v : Value} {o : Obj} {H : Heap → Prop} {Q : Value → Shared → Prop} (B : Begins v o H) (h1 : H s.heap)
    (h : ∀ h', IsEnum h' (s.heap.objs.size + 1) s.heap.objs.size 0 .none → h'.get? s.heap.objs.size = some o → h'.objs.size = s.heap.objs.size + 2 →
      (∀ b o, s.heap.get? b = some o → h'.get? b = some o) → Q (.ref (s.heap.objs.size + 1)) { s with heap := h' }) :
    wpAny (model prog w) A (call (.type "enumerate") [v]) Q E s := by
  refine callType_new F.called_enumerate (by decide) (F.typeCall_enumerate_1 _) (F.newCall_enumerate_1 _) (fun obj => F.args_object_init_2 obj _) F.entry_enumerate_new
    (meets_enum1 B) ⟨h1, ?_⟩
  have hz : (s.heap.push o).objs.size = s.heap.objs.size + 1 := Heap.size_push ..
  show _ ∧ _
  rw [hz]
  have he : IsEnum ((s.heap.push o).push { cls := .type "enumerate", data := .fields #[.none, .bool false, .ref s.heap.objs.size, rawInt 0, .none, .none] }) (s.heap.objs.size + 1) s.heap.objs.size 0 .none := by
    have := Heap.get?_push_size (s.heap.push o) (o := { cls := .type "enumerate", data := .fields #[.none, .bool false, .ref s.heap.objs.size, rawInt 0, .none, .none] }) rfl
    rw [hz] at this; exact this
  refine ⟨⟨_, he, rfl⟩, h _ he (Heap.get?_push_of_some _ (Heap.get?_push_size _ B.free)) (by rw [Heap.size_push, hz]) fun b o x => Heap.get?_push_of_some _ (Heap.get?_push_of_some _ x)⟩
end
end Lm
namespace Lm
open PySem L2 PyProof.Rows PySem.Spec
open PySem.F in
theorem pyNext_enumT_end {prog : Program} {w : World} {A : Around} {E : Value → Shared → Prop} {s : Shared} {e it l : Addr} {i : Nat} {items : Array Value} {old : Value} {Q : Option Value → Shared → Prop} (hh : A.handled = none)
    (he : IsEnum s.heap e it i old) (hit : s.heap.IsTupleIter it l i) (hl : s.heap.IsTuple l items) (hx : items[i]? = none)
    (hQ : ∀ h', Heap.ExtBut it s.heap h' → Q none { s with heap := h' }) : wpAny (model prog w) A (pyNext (.ref e)) Q E s := by
  have hT : s.TypeIs (.ref e) "enumerate" := ⟨_, he, rfl⟩
  unfold pyNext
  refine wpAny_bind (wpAny_attempt (wpAny_callSpecial?_slot (name := Str.ofString "__next__") hT F.slot_enumerate_next
    (wpAny_call_entry F.slot_enumerate_next hT F.entry_enumerate_next ?_ (F.args_enumerate_next_1 _))))
  show wpAny _ _ (field (.ref e) 2 >>= _) _ _ _
  refine wpAny_bind (wpAny_field he rfl (x := .ref it) rfl ?_)
  refine wpAny_bind (wpAny_nextOf_tuple_end (A := A.in1) hh hit hl hx fun h' x he' hx' => ?_)
  obtain ⟨o, ho, hc⟩ := hx'
  refine wpAny_bind (wpAny_isInstance (T := "StopIteration") (b := true) ⟨o, ho, hc⟩ isSubtype_stop ?_)
  exact wpAny_pure (hQ _ he')
/-- the tuple at a as it stands, each item in a new pair -/
def IteT (K : PySem.W.Frag) (a : Addr) : It :=
  ⟨fun i H => ∃ (xs : List V) (x : V), SqT K H a xs ∧ xs[i]? = some x, fun i H v H' => ∃ T x, v = .ref T ∧ H T = none ∧ H' = upd H T (.tup [.int (i : Nat), x]) ∧ ∀ xs, SqT K H a xs → xs[i]? = some x, fun i H => ∃ xs : List V, SqT K H a xs ∧ xs.length ≤ i⟩
theorem turn_enumT {P : Program} {w : World} {K : PySem.W.Frag} {elts : List Expr} {kk : Nat} {tpos : Pos} (a e it : Addr) (hai : a ≠ it) (hea : e ≠ a) :
    Turn P w K (.Tuple elts kk tpos) (IteT K a) [e, it] e (fun i h => (∃ old, IsEnum h e it ((i : Nat) : Int) old) ∧ h.IsTupleIter it a i ∧ e ≠ it) where
  mem := by simp
  obj := fun i h st b hb => by
    obtain ⟨⟨old, he⟩, ⟨o, ho, hc, hd⟩, _⟩ := st
    have e' : b = e ∨ b = it := by simpa using hb
    rcases e' with z | z
    · rw [z]; exact ⟨_, he, fun v q => nomatch q⟩
    · rw [z]; exact ⟨o, ho, fun v q => by rw [hd] at q; cases q⟩
  keep := fun i h h' st k => let ⟨⟨old, he⟩, hi, hne⟩ := st; ⟨⟨old, k e (by simp) _ he⟩, hi.at fun o q => k it (by simp) o q, hne⟩
  item := by
    intro X hP hw hK hc i pins s σ H E I hf st hg
    subst hP hw hK
    obtain ⟨⟨old, he⟩, hit, hne⟩ := st
    obtain ⟨xs, x, hq, hx⟩ := hg
    obtain ⟨its, rv, p, hz⟩ := I.tuple hq
    obtain ⟨u, hu, ru⟩ := rv.get hx
    have hel : e < s.heap.objs.size := Heap.lt_size he
    have hil : it < s.heap.objs.size := by obtain ⟨_, q, _⟩ := hit; exact Heap.lt_size q
    have hi : i < its.toArray.size := by
      have := (List.getElem?_eq_some_iff.mp hu).1
      simpa using this
    refine wpAny_pyNext_enum_itemD (Draws.tuple (A := X.A.in1) (I.ok.hd hc) it a hai its.toArray) he ⟨hit, p⟩ hi hne (by simp [hne, hea]) fun x' h' tk hx' ho hst' hT hsz hk => ?_
    have hit' := hst'.1
    have ex' : x' = u := by
      have : its[i]? = some x' := by simpa using hx'
      rw [hu] at this; exact (Option.some.inj this).symm
    subst ex'
    refine ⟨_, rfl, wpAny_letOwnedTupleGo_enum (s := { s with heap := h', toks := tk + 1 }) ho fun h'' he' sb => ?_⟩
    have hT2 : h''.get? s.heap.objs.size = some { cls := .type "tuple", data := .seq #[.int i tk, x'] } := (sb.2 _ (Nat.ne_of_gt hel)).trans hT
    have new : ObjOk X.prog X.w (upd H s.heap.objs.size (.tup [.int (i : Nat), x])) h'' s.heap.objs.size (.tup [.int (i : Nat), x]) :=
      ⟨by show 2 ≤ sizeLine; decide, [.int i tk, x'], .cons ⟨_, rfl⟩ (.cons ru .nil), ⟨_, hT2, rfl, _, rfl⟩⟩
    have I1 : Inv X pins σ (upd H s.heap.objs.size (.tup [.int (i : Nat), x])) { s with heap := h'', toks := tk + 1 } :=
      I.turnedNew (ch := [e, it]) (fun b ob hb q => (sb.2 b (fun z => hb (by simp [z]))).trans (hk b ob (fun z => hb (by simp [z])) (fun z => hb (by simp [z])) q)) hf (Nat.le_refl _) new
    refine ⟨.ref s.heap.objs.size, _, I1, rfl, ⟨_, x, rfl, I.hok.fresh (Nat.le_refl _), rfl, fun ys hy => by rw [I.tuple_inj hy hq]; exact hx⟩, ⟨⟨x', ?_⟩, hit'.at fun o q => (sb.2 it (Ne.symm hne)).trans q, hne⟩, fun b hb => ?_⟩
    · have e1 : ((i + 1 : Nat) : Int) = (i : Int) + 1 := by omega
      rw [e1]; exact he'
    · have hb' : b < s.heap.objs.size := by
        have e' : b = e ∨ b = it := by simpa using hb
        rcases e' with z | z
        · rw [z]; exact hel
        · rw [z]; exact hil
      rw [upd_ne (Nat.ne_of_lt hb')]
      exact (hf b hb).1
  done := by
    intro X hP hw hK hc i pins s σ H E I hf st hg
    subst hP hw hK
    obtain ⟨⟨old, he⟩, hit, hne⟩ := st
    obtain ⟨xs, hq, hx⟩ := hg
    obtain ⟨its, rv, p, hz⟩ := I.tuple hq
    obtain ⟨f0, f1, f2, f3, f4, f5⟩ := hf it (by simp)
    have hl := rv.length
    exact pyNext_enumT_end (I.ok.hd hc) he hit p (by simp; omega) fun h' eb => ⟨rfl, I.turned (t' := s.toks) (fun b o hb q => eb b o hb q) f0 f1 f3 f4 f5⟩
  self := fun A i s Q E st h => let ⟨⟨_, he⟩, _⟩ := st; wpAny_pyIter_enum he h
def iEnumA (K : PySem.W.Frag) (ta : TA) : TI := fun σ H R => ta σ H fun vs H1 => ∃ a xs, vs = [.ref a] ∧ ((SqL K H1 a xs ∧ R (Ite K a) H1) ∨ (SqT K H1 a xs ∧ R (IteT K a) H1))
theorem pi_enumA {X : Cx} {e : Expr} {ta : TA} {p pos tpos : Pos} {elts : List Expr} {kk : Nat} (hg : Gl X "enumerate") (hm : X.mg "enumerate" = none) (ha : PA X [e] ta) (hs : starEach [e] X.env = [(false, eval e X.env)] := by rfl) :
    PI X (.Tuple elts kk tpos) (.Call (.Name "enumerate" p) [e] [] pos) (iEnumA X.K ta) := by
  refine ⟨fun pins s σ H R I h => ?_⟩
  refine Call_ (ld_blt I hg hm boot_enumerate (PyProof.Rows.callWith_type1 (thn (ha.run pos pins s σ H _ I h) fun us s1 ⟨vs, H1, I1, r1, q1⟩ => ?_) hs rfl))
  obtain ⟨a, xs, ex, q1⟩ := q1
  subst ex
  cases r1 with
  | cons r rr =>
    cases rr
    cases r
    have fresh2 : ∀ b, b ∈ [s1.heap.objs.size + 1, s1.heap.objs.size] → FpOk X pins H1 b := fun b hb => by
      have e' : b = s1.heap.objs.size + 1 ∨ b = s1.heap.objs.size := by simpa using hb
      have hle : s1.heap.objs.size ≤ b := by
        rcases e' with z | z
        · rw [z]; exact Nat.le_add_right _ _
        · rw [z]; exact Nat.le_refl _
      exact I1.fpOk hle (I1.hok.fresh hle)
    rcases q1 with ⟨hq, q⟩ | ⟨hq, q⟩
    · obtain ⟨its, rv, p', hz⟩ := I1.list hq
      refine call_enumerate_list p'.isList fun h' he hit hsz hk => wpAny_pyIter_enum he ?_
      have I2 : Inv X pins σ H1 { s1 with heap := h' } := I1.kept (t' := s1.toks) hk
      exact ⟨s1.heap.objs.size + 1, [s1.heap.objs.size + 1, s1.heap.objs.size], _, _, H1, rfl, I2, turn_enum a (s1.heap.objs.size + 1) s1.heap.objs.size, ⟨⟨.none, he⟩, hit, Nat.succ_ne_self _⟩, fresh2, q⟩
    · obtain ⟨its, rv, p', hz⟩ := I1.tuple hq
      obtain ⟨o1, ho1, _⟩ := id p'
      have hlt := Heap.lt_size ho1
      refine call_enum1 (begins_tuple a its.toArray) (show s1.heap.IsTuple a its.toArray from p') fun h' he hit hsz hk => wpAny_pyIter_enum he ?_
      have I2 : Inv X pins σ H1 { s1 with heap := h' } := I1.kept (t' := s1.toks) hk
      exact ⟨s1.heap.objs.size + 1, [s1.heap.objs.size + 1, s1.heap.objs.size], _, _, H1, rfl, I2, turn_enumT a (s1.heap.objs.size + 1) s1.heap.objs.size (Nat.ne_of_lt hlt) (Nat.ne_of_gt (Nat.lt_succ_of_lt hlt)), ⟨⟨.none, he⟩, ⟨_, hit, rfl, rfl⟩, Nat.succ_ne_self _⟩, fresh2, q⟩
theorem walk_enumT {K : PySem.W.Frag} {a : Addr} {xs : List V} : Walk (IteT K a) xs.length (fun H => SqT K H a xs) (YPair (fun i => some (.int (i : Nat))) (fun i => xs[i]?)) :=
  ⟨fun i _ hi q => ⟨xs, xs[i], q, by simp [hi]⟩, fun _ q => ⟨xs, q, Nat.le_refl _⟩, fun i H v H' _ q ⟨T, x, e1, e2, e3, e4⟩ => ⟨T, _, x, e1, e2, e3, rfl, e4 xs q⟩⟩
end Lm

namespace Lm
open PySem L2
/-! ### defs, methods, classes as they stand behind the top, with their promises -/
structure DefOk (P : Program) (w : World) (K : PySem.W.Frag) (mg : Str → Option Value) (base : Heap) (k : Nat) (x : Str) (f : Addr) (fd : FuncData) (ps : List Str) (sp : Sp) : Prop where
  ok : FnOk P w K mg base CX0 k f fd ps sp
  kp : PySem.W.keepIn K (.ref f) = true
  bd : Binds K fd ps []
  mg : mg x = some (.ref f)
structure MetOk (P : Program) (w : World) (K : PySem.W.Frag) (mg : Str → Option Value) (base : Heap) (k : Nat) (C : Addr) (m : Str) (f : Addr) (fd : FuncData) (ps : List Str) (sp : Sp) : Prop where
  ok : FnOk P w K mg base CX0 k f fd ps sp
  bd : Binds K fd ps []
  mt : Meth K C m f
  cl : Cls K C
structure ClsOk (P : Program) (w : World) (K : PySem.W.Frag) (mg : Str → Option Value) (base : Heap) (k : Nat) (x : Str) (C f : Addr) (fd : FuncData) (ps : List Str) (sp : Sp) : Prop where
  ok : FnOk P w K mg base CX0 k f fd ps sp
  bd : Binds K fd ps []
  mkr : Mk K C f
  cl : Cls K C
  mg : mg x = some (.ref C)
section
variable {X : Cx} {k : Nat} {f C : Addr} {fd : FuncData} {ps : List Str} {sp : Sp} {x m : Str} {p pos apos : Pos} {e o : Expr} {es : List Expr} {ta : TE} {t : TA}
theorem pe_d (D : DefOk X.prog X.w X.K X.mg X.base k x f fd ps sp) (hr : Room k X.A) (ha : PA X (e :: es) t) (hg : Gl X x := by rfl) (hdb : (x == ("__debug__" : Str)) = false := by decide)
    (he : starEach (e :: es) X.env = (false, eval e X.env) :: starEach es X.env := by rfl) (hpl : (backTo pos (starEach es X.env)).any (·.1) = false := by rfl) :
    PE X (.Call (.Name x p) (e :: es) [] pos) (tCall sp [] E0 t) := pe_call D.ok hr hg D.mg D.kp D.bd .nil pass0 ha hdb he hpl
theorem pe_d0 (D : DefOk X.prog X.w X.K X.mg X.base k x f fd ps sp) (hr : Room k X.A) (hg : Gl X x := by rfl) (hdb : (x == ("__debug__" : Str)) = false := by decide) :
    PE X (.Call (.Name x p) [] [] pos) (tCall sp [] E0 tNil) := pe_call0 D.ok hr hg D.mg D.kp D.bd .nil pass0 hdb
theorem pe_mk (D : ClsOk X.prog X.w X.K X.mg X.base k x C f fd ps sp) (hr : Room (k + 1) X.A) (ha : PA X (e :: es) t) (hg : Gl X x := by rfl) (hdb : (x == ("__debug__" : Str)) = false := by decide)
    (he : starEach (e :: es) X.env = (false, eval e X.env) :: starEach es X.env := by rfl) (hpl : (backTo pos (starEach es X.env)).any (·.1) = false := by rfl) :
    PE X (.Call (.Name x p) (e :: es) [] pos) (tMake C sp [] E0 t) := pe_make D.mkr D.ok hr hg D.mg D.bd .nil pass0 ha hdb he hpl
theorem pe_m {pl : Sem Bool} (D : MetOk X.prog X.w X.K X.mg X.base k C m f fd ps sp) (hr : Room k X.A) (he : PE X o ta) (ha : PA X (e :: es) t)
    (hst : starEach (e :: es) X.env = (false, eval e X.env) :: starEach es X.env := by rfl) (hpl : (backTo pos (starEach es X.env)).any (·.1) = false := by rfl)
    (ht : eval (.Call (.Attribute o m apos) (e :: es) [] pos) X.env = (do
      let ov ← eval o X.env
      standAt apos.atName
      let (f, first) ← holding [ov] (getMethod ov m pl)
      callWith pos f first (backTo pos (starEach (e :: es) X.env)) (backToKw pos (keywordEach [] X.env))) := by rfl) :
    PE X (.Call (.Attribute o m apos) (e :: es) [] pos) (tMeth C m sp [] E0 ta t) := pe_meth (pl := pl) he D.cl D.mt D.ok hr D.bd .nil pass0 ha hst hpl ht
theorem pe_m0 {pl : Sem Bool} (D : MetOk X.prog X.w X.K X.mg X.base k C m f fd ps sp) (hr : Room k X.A) (he : PE X o ta)
    (ht : eval (.Call (.Attribute o m apos) [] [] pos) X.env = (do
      let ov ← eval o X.env
      standAt apos.atName
      let (f, first) ← holding [ov] (getMethod ov m pl)
      callWith pos f first (backTo pos (starEach [] X.env)) (backToKw pos (keywordEach [] X.env))) := by rfl) :
    PE X (.Call (.Attribute o m apos) [] [] pos) (tMeth C m sp [] E0 ta tNil) := pe_meth0 (pl := pl) he D.cl D.mt D.ok hr D.bd .nil pass0 ht
theorem MetOk.len (D : MetOk X.prog X.w X.K X.mg X.base k C "__len__" f fd ps sp) (hr : Room (k + 1) X.A) : CallR X (.builtin "len") (rLenOwn C sp E0) := call_lenOwn D.ok D.mt.at_ D.mt.fn D.bd hr pass0
theorem MetOk.isin (D : MetOk X.prog X.w X.K X.mg X.base k C "__contains__" f fd ps sp) (hr : Room k X.A) : OpR X (compareOp .In) (rInOwn C sp E0 false) := op_inOwn D.ok D.mt.at_ D.mt.fn D.bd hr pass0
theorem MetOk.notin (D : MetOk X.prog X.w X.K X.mg X.base k C "__contains__" f fd ps sp) (hr : Room k X.A) : OpR X (compareOp .NotIn) (rInOwn C sp E0 true) := op_notInOwn D.ok D.mt.at_ D.mt.fn D.bd hr pass0
theorem MetOk.bin {op : Operator} (D : MetOk X.prog X.w X.K X.mg X.base k C (PySem.dunder op.info.2) f fd ps sp) (hc : PySem.W.selfFirst X.K C = true) (hr : Room k X.A) : OpR X (binaryOp op) (rBinOwn C sp E0) := op_binOwn D.ok hc D.mt.at_ D.mt.fn D.bd hr pass0
theorem MetOk.le (D : MetOk X.prog X.w X.K X.mg X.base k C "__le__" f fd ps sp) (hr : Room k X.A) : OpR X (compareOp .LtE) (rBinOwn C sp E0) := op_cmpOwn (fun _ _ => rfl) D.ok D.mt.at_ D.mt.fn D.bd hr pass0
theorem MetOk.lt (D : MetOk X.prog X.w X.K X.mg X.base k C "__lt__" f fd ps sp) (hr : Room k X.A) : OpR X (compareOp .Lt) (rBinOwn C sp E0) := op_cmpOwn (fun _ _ => rfl) D.ok D.mt.at_ D.mt.fn D.bd hr pass0
theorem MetOk.eq (D : MetOk X.prog X.w X.K X.mg X.base k C "__eq__" f fd ps sp) (hr : Room k X.A) : OpR X (compareOp .Eq) (rBinOwn C sp E0) := op_cmpOwn (fun _ _ => rfl) D.ok D.mt.at_ D.mt.fn D.bd hr pass0
/-- x != y of two instances of a class with an own == alone -/
def rNeOwn (C : Addr) (sp : Sp) (E : XK) : R2 := fun x y H Q => ∃ a dx fs b dy gs, x = .ref a ∧ y = .ref b ∧ H a = some (.ins C dx fs) ∧ H b = some (.ins C dy gs) ∧ sp [x, y] H (fun z H' => ∃ k : Bool, z = .bl k ∧ Q (.bl (!k)) H') E
theorem MetOk.ne (D : MetOk X.prog X.w X.K X.mg X.base k C "__eq__" f fd ps sp) (hn : PySem.W.findIn X.K (.ref C) "__ne__" = some (some (.builtin "object.__ne__"))) (ho : PySem.W.subIn X.K (.ref C) (.type "object") = some true) (hr : Room (k + 1) X.A) :
    OpR X (compareOp .NotEq) (rNeOwn C sp E0) := by
  intro pins s σ H x y v u Q I rx ry h
  obtain ⟨a, dx, fs, b, dy, gs, rfl, rfl, ha, hb', q⟩ := h
  cases (show v = Value.ref a from rx)
  cases (show u = Value.ref b from ry)
  obtain ⟨mA, J, _⟩ := ins_get I.hok ha
  obtain ⟨mB, J', _⟩ := ins_get I.hok hb'
  obtain ⟨od, J, _⟩ := J.look
  obtain ⟨od', J', _⟩ := J'.look
  obtain ⟨m, hF⟩ := I.fr
  show wpAny _ _ (richCompare .NotEq _ _) _ _ _
  refine ne_own (tb := .ref C) (by have := hr.un; omega) hF I.ok.mod.kin J J'.type (by simp [PySem.W.notFirst]) hn ho D.mt.at_ D.mt.fn
    (wpAny_mono (run_in (us := [.ref a, .ref b]) (vs := [.ref a, .ref b]) D.ok hr.in1 I.env0.in1 D.bd pass0 I (.cons rfl (.cons rfl .nil)) q) (fun w s' z => ?_) fun _ _ x => x)
  obtain ⟨z', H', I', rz, b, ez, qz⟩ := z
  subst ez
  cases (show w = Value.bool b from rz)
  exact ⟨b, rfl, .bl _, H', I', rfl, qz⟩
end
/-! ### heaps -/
/-- all that was tracked is as it was, but perhaps what stands at st -/
def Kp (st : Addr) (H H' : Hp) : Prop := ∀ b o, b ≠ st → H b = some o → H' b = some o
theorem Kp.refl (st : Addr) (H : Hp) : Kp st H H := fun _ _ _ h => h
theorem Kp.trans {st : Addr} {H H1 H2 : Hp} (a : Kp st H H1) (b : Kp st H1 H2) : Kp st H H2 := fun c o n h => b c o n (a c o n h)
theorem Kp.of {st : Addr} {H H' : Hp} (s : Same H H') : Kp st H H' := fun b o _ h => s b o h
theorem Kp.upd (st : Addr) (H : Hp) (o : HO) : Kp st H (upd H st o) := fun b u n h => by rw [upd_ne n]; exact h
theorem Kp.free {st : Addr} {H H' : Hp} (e : Kp st H H') {l : Addr} (hl : l ≠ st) (h : H' l = none) : H l = none := by
  cases q : H l with
  | none => rfl
  | some o => rw [e l o hl q] at h; cases h
theorem Same.upd' {H : Hp} {p : Addr} {o : HO} (h : H p = none) : Same H (upd H p o) := fun a u e => by rw [upd_ne (ne_of_none e h)]; exact e
/-- an object that H does not know may change -/
theorem Same.mut {H H' : Hp} {p : Addr} {o : HO} (e : Same H H') (h : H p = none) : Same H (upd H' p o) := fun a u ha => by rw [upd_ne (ne_of_none ha h)]; exact e a u ha
theorem Kp.mut {st : Addr} {H H' : Hp} {p : Addr} {o : HO} (e : Kp st H H') (h : H p = none) : Kp st H (L2.upd H' p o) := fun a u hn ha => by rw [upd_ne (ne_of_none ha h)]; exact e a u hn ha
theorem Kp.seqL {st : Addr} {K : PySem.W.Frag} {H H' : Hp} {a : Addr} {xs : List V} (e : Kp st H H') (hn : a ≠ st) (h : SqL K H a xs) : SqL K H' a xs := by
  rcases h with (h | ⟨o, h⟩) | h
  · exact .inl (.inl (e _ _ hn h))
  · exact .inl (.inr ⟨o, e _ _ hn h⟩)
  · exact .inr h
theorem Kp.seqT {st : Addr} {K : PySem.W.Frag} {H H' : Hp} {a : Addr} {xs : List V} (e : Kp st H H') (hn : a ≠ st) (h : SqT K H a xs) : SqT K H' a xs := by
  rcases h with (h | ⟨o, h⟩) | h
  · exact .inl (.inl (e _ _ hn h))
  · exact .inl (.inr ⟨o, e _ _ hn h⟩)
  · exact .inr h
theorem Same.seqT {K : PySem.W.Frag} {H H' : Hp} {a : Addr} {xs : List V} (e : Same H H') (h : SqT K H a xs) : SqT K H' a xs := by
  rcases h with (h | ⟨o, h⟩) | h
  · exact .inl (.inl (e _ _ h))
  · exact .inl (.inr ⟨o, e _ _ h⟩)
  · exact .inr h
/-- the law's state: the cells, how many were taken, what is left, whether it is far -/
structure StAt (H : Hp) (st c : Addr) : Prop where
  ob : ∃ (n l : Int) (b : Bool), H st = some (.lst [.ref c, .int n, .int l, .bl b])
  ce : ∃ ns : List Int, H c = some (.lst (ns.map V.int)) ∧ ns.length ≤ 63
  ne : c ≠ st
theorem StAt.same {H H' : Hp} {st c : Addr} (S : StAt H st c) (e : Same H H') : StAt H' st c := by
  obtain ⟨⟨n, l, b, h⟩, ⟨ns, h2, h3⟩, ne⟩ := S
  exact ⟨⟨n, l, b, e _ _ h⟩, ⟨ns, e _ _ h2, h3⟩, ne⟩
/-- another object changes -/
theorem StAt.mut {H : Hp} {st c p : Addr} {o : HO} (S : StAt H st c) (h1 : p ≠ st) (h2 : p ≠ c) : StAt (upd H p o) st c := by
  obtain ⟨⟨n, l, b, h⟩, ⟨ns, h4, h3⟩, ne⟩ := S
  exact ⟨⟨n, l, b, by rw [upd_ne (Ne.symm h1)]; exact h⟩, ⟨ns, by rw [upd_ne (Ne.symm h2)]; exact h4, h3⟩, ne⟩
theorem StAt.of_new {H : Hp} {st c p : Addr} (S : StAt H st c) (h : H p = none) : p ≠ st ∧ p ≠ c := by
  obtain ⟨⟨n, l, b, h1⟩, ⟨ns, h4, h3⟩, ne⟩ := S
  exact ⟨(ne_of_none h1 h).symm, (ne_of_none h4 h).symm⟩
end Lm

namespace Lm
open PySem PySem.W PySem.Calls PyProof.Rows
section
variable {prog : Program} {w : World} {A : Around} {E : Value → Shared → Prop} {s : Shared} {K : Frag} {x C L f f' dx : Addr} {h₀ : Heap} {m : Str → Option Value} {od : Option Obj}
theorem add_declines {C : Addr} {dx : Addr} (n : Int) (t : Tok) (x : Addr) : GivesAt (fun s => s.heap.get? x = some (instObj C dx)) (Builtin.«int.__add__» ⟨[.int n t, .ref x], []⟩) (.val .notImplemented) := by
  intro prog w A R s hx h
  obtain ⟨hp, g, d, tk, os⟩ := s
  have hx : hp.get? x = some (instObj C dx) := hx
  unfold Builtin.«int.__add__» PySem.Builtin.Int.intBinary
  repeat (first
    | (refine wpAny_bind (m := asInt? (.ref x)) ?_; unfold asInt?; refine wpAny_bind (wpAny_load (s := ⟨hp, g, d, tk, os⟩) hx ?_); dsimp only [instObj])
    | wp_step)
  exact h
theorem ksp_addR {n : Int} {t : Tok} {Q : Value → Shared → Prop} (Fh : Fr h₀ L s.heap m) (X₀ : K.In h₀) (I : InstAt s.heap x (instObj C dx) C od) (hc : selfFirst K C = true)
    (hs : findIn K (.ref C) "__add__" = some (some (.ref f'))) (hr : findIn K (.ref C) "__radd__" = some (some (.ref f))) (hf : isFn K (.ref f) = true) (hsub : subIn K (.ref C) (.type "int") = some false)
    (h : wpAny (model prog w) A (call (.ref f) [.ref x, .int n t]) (PySem.W.CmpBack Q) E s) : wpAny (model prog w) A (binaryOp .Add (.int n t) (.ref x)) Q E s := by
  have X := X₀.keeps Fh.keep
  obtain ⟨cd, rest, hcd, hm⟩ := ksp_first hc
  have I' := I
  obtain ⟨hh, g, d, tt, os⟩ := s
  have L1 : Looks (model prog w) hh (typeOf (.ref x)) (.ref C) := I.type
  have L3 : Looks (model prog w) hh (fillsNumberSlot (.ref C) "add") true := fills_K X hcd hm hs
  have L5 : Looks (model prog w) hh (isSubtype (.ref C) (.type "int")) false := looks_subIn X hsub
  have L2 : Looks (model prog w) hh (typeOf (.int n t)) (.type "int") := Looks.of_pure rfl
  have L4 : Looks (model prog w) hh (fillsNumberSlot (.type "int") "add") true := Looks.of_pure F.fills_int_add
  have hne : (Value.type "int" == Value.ref C) = false := Bool.eq_false_iff.mpr fun q => by cases beq_iff_eq.mp q
  have two : ∀ {Q' : Option Value → Shared → Prop}, (∀ v s', Q v s' → Q' (some v) s') → wpAny (model prog w) A (tryMethod (.ref x) (dunderR "add") (.int n t)) Q' E ⟨hh, g, d, tt, os⟩ := fun hq => by
    refine wpAny_mono (ksp_try (Q := Q) X I' hr hf h) (fun r s' z => ?_) fun _ _ e => e
    obtain ⟨v, rfl, q⟩ := z
    exact hq _ _ q
  have one : ∀ {Q' : Option Value → Shared → Prop}, Q' none ⟨hh, g, d, tt, os⟩ → wpAny (model prog w) A (tryMethod (.int n t) (PySem.dunder "add") (.ref x)) Q' E ⟨hh, g, d, tt, os⟩ := fun hq =>
    wpAny_tryMethod_declines (typeIs_int _ n t) F.slot_int_add (call_givesAt F.slot_int_add (typeIs_int _ n t) F.entry_int_add (F.args_int_add_2 _ _) (add_declines (C := C) (dx := dx) n t x) I'.at_ ⟨rfl, hq⟩)
  simp only [binaryOp]
  refine wpAny_holding (wpAny_bind ?_)
  unfold binaryOp1
  refine wpAny_bind (L2.at (wpAny_bind (L1.at (wpAny_bind (L4.at ?_)))))
  simp only [hne, Bool.false_eq_true, if_false]
  refine wpAny_bind (L3.at ?_)
  simp only [Bool.and_self, if_true]
  refine wpAny_bind (L5.at ?_)
  simp only [Bool.false_eq_true, if_false, Bool.not_false, Bool.and_self, if_true]
  refine wpAny_bind (wpAny_pure ?_)
  simp only [Bool.false_eq_true, if_false]
  refine wpAny_bind (one ?_)
  dsimp only
  refine wpAny_bind (two fun v s' q => ?_)
  dsimp only
  exact wpAny_bind (wpAny_rule (wpAny_pure (wpAny_pure q)))
end
end Lm

namespace Lm
open PySem L2
section
variable {X : Cx} {CX : CXT} {k : Nat} {f f' C : Addr} {fd : FuncData} {ps : List Str} {sp : Sp} {E : XK}
/-- x op n, x an instance of the class at C, n an integer -/
def rBinInt (C : Addr) (sp : Sp) (E : XK) : R2 := fun x y H Q => ∃ a dx fs n, x = .ref a ∧ y = .int n ∧ H a = some (.ins C dx fs) ∧ sp [x, y] H Q E
/-- what the text says of the class's own op and of the integers' -/
structure BinInt (K : PySem.W.Frag) (C : Addr) (nm : String) : Prop where
  self : PySem.W.selfFirst K C = true
  r : ∃ rc, PySem.W.findIn K (.ref C) (PySem.dunderR nm) = some rc ∧ (rc = none ∨ ∃ g : Addr, rc = some (.ref g))
  i1 : ∃ fo, PySem.W.findIn K (.type "int") (PySem.dunder nm) = some fo
  i2 : ∃ ro, PySem.W.findIn K (.type "int") (PySem.dunderR nm) = some ro
  sub : PySem.W.subIn K (.type "int") (.ref C) = some false
theorem op_binInt {op : Operator} (F : FnOk X.prog X.w X.K X.mg X.base CX k f fd ps sp) (B : BinInt X.K C op.info.2) (hs : PySem.W.findIn X.K (.ref C) (PySem.dunder op.info.2) = some (some (.ref f))) (hf : PySem.W.isFn X.K (.ref f) = true) (hb : Binds X.K fd ps []) (hr : Room k X.A) (hx : Passes CX X E) :
    OpR X (binaryOp op) (rBinInt C sp E) := by
  intro pins s σ H x y v u Q I rx ry h
  obtain ⟨a, dx, fs, n, rfl, rfl, ha, q⟩ := h
  cases (show v = Value.ref a from rx)
  obtain ⟨t, e⟩ := (show ∃ t, u = Value.int n t from ry)
  subst e
  obtain ⟨mA, J, _⟩ := ins_get I.hok ha
  obtain ⟨od, J, _⟩ := J.look
  obtain ⟨m, hF⟩ := I.fr
  obtain ⟨rc, b1, b2⟩ := B.r
  obtain ⟨fo, b3⟩ := B.i1
  obtain ⟨ro, b4⟩ := B.i2
  refine PySem.W.ksp_binT (T := "int") hF I.ok.mod.kin J rfl B.self hs hf b1 b2 b3 b4 B.sub (wpAny_mono (run_in (us := [.ref a, .int n t]) (vs := [.ref a, .int n]) F hr I.env0 hb hx I (.cons rfl (.cons ⟨t, rfl⟩ .nil)) q) (fun w s' z => ?_) fun _ _ x => x)
  obtain ⟨z', H', I', rz, qz⟩ := z
  exact cmpBack rz ⟨z', H', I', rz, qz⟩
/-- n + x -/
def rAddR (C : Addr) (sp : Sp) (E : XK) : R2 := fun x y H Q => ∃ a dx fs n, x = .int n ∧ y = .ref a ∧ H a = some (.ins C dx fs) ∧ sp [y, x] H Q E
theorem op_addR (F : FnOk X.prog X.w X.K X.mg X.base CX k f fd ps sp) (hc : PySem.W.selfFirst X.K C = true) (hs' : PySem.W.findIn X.K (.ref C) "__add__" = some (some (.ref f'))) (hsub : PySem.W.subIn X.K (.ref C) (.type "int") = some false)
    (hs : PySem.W.findIn X.K (.ref C) "__radd__" = some (some (.ref f))) (hf : PySem.W.isFn X.K (.ref f) = true) (hb : Binds X.K fd ps []) (hr : Room k X.A) (hx : Passes CX X E) :
    OpR X (binaryOp .Add) (rAddR C sp E) := by
  intro pins s σ H x y v u Q I rx ry h
  obtain ⟨a, dx, fs, n, rfl, rfl, ha, q⟩ := h
  cases (show u = Value.ref a from ry)
  obtain ⟨t, e⟩ := (show ∃ t, v = Value.int n t from rx)
  subst e
  obtain ⟨mA, J, _⟩ := ins_get I.hok ha
  obtain ⟨od, J, _⟩ := J.look
  obtain ⟨m, hF⟩ := I.fr
  refine ksp_addR hF I.ok.mod.kin J hc hs' hs hf hsub (wpAny_mono (run_in (us := [.ref a, .int n t]) (vs := [.ref a, .int n]) F hr I.env0 hb hx I (.cons rfl (.cons ⟨t, rfl⟩ .nil)) q) (fun w s' z => ?_) fun _ _ x => x)
  obtain ⟨z', H', I', rz, qz⟩ := z
  exact cmpBack rz ⟨z', H', I', rz, qz⟩
theorem MetOk.bini {op : Operator} (D : MetOk X.prog X.w X.K X.mg X.base k C (PySem.dunder op.info.2) f fd ps sp) (B : BinInt X.K C op.info.2) (hr : Room k X.A) : OpR X (binaryOp op) (rBinInt C sp E0) := op_binInt D.ok B D.mt.at_ D.mt.fn D.bd hr pass0
theorem MetOk.addr (D : MetOk X.prog X.w X.K X.mg X.base k C "__radd__" f fd ps sp) (hc : PySem.W.selfFirst X.K C = true) (hs' : PySem.W.findIn X.K (.ref C) "__add__" = some (some (.ref f'))) (hsub : PySem.W.subIn X.K (.ref C) (.type "int") = some false) (hr : Room k X.A) :
    OpR X (binaryOp .Add) (rAddR C sp E0) := op_addR D.ok hc hs' hsub D.mt.at_ D.mt.fn D.bd hr pass0
theorem MetOk.gt (D : MetOk X.prog X.w X.K X.mg X.base k C "__gt__" f fd ps sp) (hr : Room k X.A) : OpR X (compareOp .Gt) (rBinOwn C sp E0) := op_cmpOwn (fun _ _ => rfl) D.ok D.mt.at_ D.mt.fn D.bd hr pass0
theorem MetOk.ge (D : MetOk X.prog X.w X.K X.mg X.base k C "__ge__" f fd ps sp) (hr : Room k X.A) : OpR X (compareOp .GtE) (rBinOwn C sp E0) := op_cmpOwn (fun _ _ => rfl) D.ok D.mt.at_ D.mt.fn D.bd hr pass0
/-- a property of a class, with its getter's promise -/
structure PrpOk (P : Program) (w : World) (K : PySem.W.Frag) (mg : Str → Option Value) (base : Heap) (k : Nat) (C p : Addr) (m : Str) (f : Addr) (fd : FuncData) (ps : List Str) (sp : Sp) : Prop where
  ok : FnOk P w K mg base CX0 k f fd ps sp
  bd : Binds K fd ps []
  pr : PropOf K C m p f
  cl : Cls K C
theorem pe_p {p : Addr} {m : Str} {e : Expr} {pos : Pos} {ta : TE} (D : PrpOk X.prog X.w X.K X.mg X.base k C p m f fd ps sp) (hr : Room (k + 1) X.A) (he : PE X e ta) (hab : attributeBase e m X.env (eval e X.env) = eval e X.env := by rfl) :
    PE X (.Attribute e m pos) (tProp C sp [] E0 ta) := pe_prop he D.cl D.pr D.ok hr D.bd .nil pass0 hab
end
end Lm

namespace Lm
open PySem L2 PyProof.Rows
section
variable {prog : Program} {w : World} {A : Around} {E : Value → Shared → Prop} {s : Shared}
theorem isList_push {h : Heap} {l : Addr} {items : Array Value} {o : Obj} (x : h.IsList l items) : (h.push o).IsList l items := by
  obtain ⟨ol, hol, r⟩ := x
  exact ⟨ol, Heap.get?_push_of_some _ hol, r⟩
theorem isList_ext {h h' : Heap} {it l : Addr} {items : Array Value} (x : h.IsList l items) (e : Heap.ExtBut it h h') (n : l ≠ it) : h'.IsList l items := by
  obtain ⟨ol, hol, r⟩ := x
  exact ⟨ol, e l ol n hol, r⟩
theorem draw_list {it t : Addr} {items : Array Value} (hne : t ≠ it) : ∀ (n i : Nat) (s : Shared) (Q : List Value → Shared → Prop), s.heap.IsListIter it t i → s.heap.IsList t items → i + n ≤ items.size →
    (∀ h', h'.IsListIter it t (i + n) → Heap.SameBut it s.heap h' → Q ((items.toList.drop i).take n) { s with heap := h' }) → wpAny (model prog w) A (draw (.ref it) n) Q E s
  | 0, i, s, Q, hit, _, _, hQ => by
    show wpAny _ _ (pure []) Q E s
    exact wpAny_pure (by simpa using hQ s.heap hit (Heap.SameBut.refl ..))
  | n + 1, i, s, Q, hit, ht, hle, hQ => by
    have hlt : i < items.size := by omega
    show wpAny _ _ (pyNext (.ref it) >>= _) Q E s
    refine wpAny_bind (wpAny_pyNext_list_item hit ht (x := items[i]) (by simp [hlt]) fun h₁ hit₁ hs₁ => ?_)
    refine wpAny_bind (wpAny_holding (draw_list hne n (i + 1) _ _ hit₁ (isList_ext ht hs₁.extBut hne) (by omega) fun h₂ hit₂ hs₂ => wpAny_pure ?_))
    have hd : items.toList.drop i = items[i] :: items.toList.drop (i + 1) := by simp [List.drop_eq_getElem_cons, hlt]
    have := hQ h₂ (by rw [show i + (n + 1) = i + 1 + n by omega]; exact hit₂) (hs₁.trans hs₂)
    rw [hd, List.take_succ_cons] at this
    exact this
theorem unpackItems_list {t : Addr} {items : Array Value} {Q : List Value → Shared → Prop} (hh : A.handled = none) (ht : s.heap.IsList t items)
    (hQ : ∀ h', Heap.ExtBut s.heap.objs.size s.heap h' → Q items.toList { s with heap := h' }) : wpAny (model prog w) A (unpackItems (.ref t) items.size none) Q E s := by
  have hlt : t ≠ s.heap.objs.size := by obtain ⟨o, ho, _⟩ := ht; exact Nat.ne_of_lt (Heap.lt_size ho)
  unfold unpackItems
  refine wpAny_bind ?_
  · unfold notIterableAtAll
    refine wpAny_bind (wpAny_specialOf ht.typeIs PySem.F.slot_list_iter.lookup ?_)
    refine wpAny_pure ?_
    simp only [Bool.false_eq_true, if_false]
    refine wpAny_bind (wpAny_holding (wpAny_pyIter_list ht ?_))
    refine wpAny_bind (wpAny_holding (draw_list hlt items.size 0 _ _ ⟨_, Heap.get?_push_size _ rfl, rfl, rfl⟩ (isList_push ht) (by omega) fun h₁ hit₁ hs₁ => ?_))
    have hall : List.take items.size (List.drop 0 items.toList) = items.toList := by
      rw [List.drop_zero]; exact List.take_of_length_le (by simp)
    rw [hall]
    rw [if_neg (by simp)]
    have ht₁ : h₁.IsList t items := isList_ext (isList_push ht) hs₁.extBut hlt
    refine wpAny_bind (wpAny_holding (wpAny_pyNext_list_end hh hit₁ ht₁ (by simp) fun h₂ he₂ => ?_))
    simp only [Option.isSome_none, Bool.false_eq_true, if_false]
    refine wpAny_pure (hQ h₂ fun b o hb e => he₂ b o hb (hs₁.extBut b o hb (Heap.get?_push_of_some _ e)))
theorem assign_Tuple_list {env : Env} {elts : List Expr} {x1} {pos : Pos} {t : Addr} {items : Array Value} {Q : Unit → Shared → Prop} (hh : A.handled = none) (ht : s.heap.IsList t items)
    (hn : (assignEach elts env).length = items.size) (hstar : (assignEach elts env).findIdx? (·.1) = none)
    (h : ∀ h', Heap.ExtBut s.heap.objs.size s.heap h' → wpAny (model prog w) A (assignInOrder ((assignEach elts env).map (·.2)) items.toList) Q E { s with heap := h' }) :
    wpAny (model prog w) A (assign (.Tuple elts x1 pos) env (.ref t)) Q E s := by
  rw [PyProof.Rows.assign_Tuple]
  refine wpAny_bind (wpAny_standAt ?_)
  unfold unpack
  rw [hn, hstar]
  exact wpAny_bind (wpAny_holding (unpackItems_list hh ht h))
end
/-- (a, b, ..) = a list of that length -/
def gTupL (K : PySem.W.Frag) (n : Nat) (t : TGs) : TG := fun v σ H Q => ∃ a xs, v = .ref a ∧ SqL K H a xs ∧ xs.length = n ∧ t xs σ H Q
theorem pg_tupL {X : Cx} {es : List Expr} {k : Nat} {pos : Pos} {t : TGs} {n : Nat} (hc : X.calm = true) (h : PGs X es t)
    (hn : (assignEach es X.env).length = n := by rfl) (hst : (assignEach es X.env).findIdx? (·.1) = none := by rfl) : PG X (.Tuple es k pos) (gTupL X.K n t) := by
  refine ⟨fun pins s σ H v u Q I r hw => ?_⟩
  obtain ⟨a, xs, e1, hq, hl, hw⟩ := hw
  subst e1
  cases r
  obtain ⟨its, rv, ⟨o, m, e, hcl, _, d⟩, hz⟩ := I.list hq
  refine assign_Tuple_list (I.ok.hd hc) ⟨o, e, hcl, m, d⟩ (by simp [hn, ← hl, rv.length]) hst fun h' hx => ?_
  have I1 : Inv X pins σ H { s with heap := h' } := I.kept (t' := s.toks) fun b o e => hx b o (Nat.ne_of_lt (Heap.lt_size e)) e
  exact h.run pins _ σ H xs _ Q I1 (by simpa using rv) hw
end Lm

namespace Lm
open PySem PySem.W PySem.Calls PyProof.Rows
open AutoSeq1 (wpAny_loadPart')
section
variable {prog : Program} {w : World} {A : Around} {E : Value → Shared → Prop} {s : Shared} {K : Frag} {x C L f dx : Addr} {h₀ : Heap} {m : Str → Option Value} {od : Option Obj}
theorem int_eq_ins (n : Int) (t : Tok) (x : Addr) {C dx : Addr} : GivesAt (fun s => s.heap.get? x = some (instObj C dx)) (Builtin.«int.__eq__» ⟨[.int n t, .ref x], []⟩) (.val .notImplemented) := by
  intro prog w A R s hx h
  obtain ⟨hp, g, d, tk, os⟩ := s
  have hx : hp.get? x = some (instObj C dx) := hx
  wp_walk using wpAny_load hx, wpAny_loadPart' hx
  exact h
theorem str_eq_ins (n : Str) (t : Tok) (x : Addr) {C dx : Addr} : GivesAt (fun s => s.heap.get? x = some (instObj C dx)) (Builtin.«str.__eq__» ⟨[.str n t, .ref x], []⟩) (.val .notImplemented) := by
  intro prog w A R s hx h
  obtain ⟨hp, g, d, tk, os⟩ := s
  have hx : hp.get? x = some (instObj C dx) := hx
  wp_walk using wpAny_load hx, wpAny_loadPart' hx
  exact h
theorem list_eq_ins (l x : Addr) {items : Array Value} {n : Nat} {dd : Option Addr} {sl : Array (Option Value)} : GivesAt (fun s => s.heap.get? l = some { cls := .type "list", dict := dd, data := .seq items n, slots := sl } ∧ ∀ prog w, Looks (model prog w) s.heap (isInstance (.ref x) (.type "list")) false)
    (Builtin.«list.__eq__» ⟨[.ref l, .ref x], []⟩) (.val .notImplemented) := by
  intro prog w A R s ⟨hl, hi⟩ h
  obtain ⟨hp, g, d, tk, os⟩ := s
  have hi := hi prog w
  wp_walk using hi.here, wpAny_loadPart' hl
  exact h
theorem tuple_eq_ins (l x : Addr) {items : Array Value} {n : Nat} {dd : Option Addr} {sl : Array (Option Value)} : GivesAt (fun s => s.heap.get? l = some { cls := .type "tuple", dict := dd, data := .seq items n, slots := sl } ∧ ∀ prog w, Looks (model prog w) s.heap (isInstance (.ref x) (.type "tuple")) false)
    (Builtin.«tuple.__eq__» ⟨[.ref l, .ref x], []⟩) (.val .notImplemented) := by
  intro prog w A R s ⟨hl, hi⟩ h
  obtain ⟨hp, g, d, tk, os⟩ := s
  have hi := hi prog w
  wp_walk using hi.here, wpAny_loadPart' hl
  exact h
/-- v == x, v of a built-in type whose own == declines, x an instance with an own == -/
theorem eq_refl_K {Q : Value → Shared → Prop} {v : Value} {T id : String} {ox : Obj} (hu : A.units < cLine) (F : Fr h₀ L s.heap m) (X₀ : K.In h₀) (I : InstAt s.heap x ox C od) (hT : s.TypeIs v T) (slot : Slot T (cmpInfo .Eq).2.1 id)
    (hsub : subIn K (.ref C) (.type T) = some false) (hs : findIn K (.ref C) "__eq__" = some (some (.ref f))) (hf : isFn K (.ref f) = true)
    (hc : ∀ Q' : Value → Shared → Prop, Q' .notImplemented s → wpAny (model prog w) A (call (.builtin id) [v, .ref x]) Q' E s)
    (h : wpAny (model prog w) A (call (.ref f) [.ref x, v]) (PySem.W.CmpBack Q) E s) : wpAny (model prog w) A (richCompare .Eq v (.ref x)) Q E s := by
  have X := X₀.keeps F.keep
  have two : wpAny (model prog w) A (tryCompare (.ref x) "__eq__" v) (fun r s' => ∃ u, r = some u ∧ Q u s') E s := by
    unfold tryCompare
    refine wpAny_bind (ifBound_K X I hs hf (wpAny_mono h (fun v s' hv => ?_) fun _ _ e => e))
    cases v <;> first | exact hv.elim | exact wpAny_pure ⟨_, rfl, hv⟩
  have hne : (Value.type T != Value.ref C) = true := by
    rw [bne_iff_ne]; intro z; cases z
  simp only [richCompare, cmpInfo, hT.oneThing_none] at slot ⊢
  refine wpAny_holding ?_
  refine wpAny_bind (wpAny_cRoomFor hu ?_)
  refine wpAny_bind (wpAny_typeOf hT (wpAny_bind (I.type.here ?_)))
  simp only [hne, if_true]
  refine wpAny_bind ((looks_subIn X hsub).here ?_)
  simp only [Bool.false_eq_true, if_false, Bool.not_false, if_true]
  refine wpAny_bind (m := tryCompare v _ (.ref x)) (wpAny_tryCompare_declines hT slot (hc _ ⟨rfl, ?_⟩))
  refine wpAny_bind (wpAny_mono two (fun r s' z => ?_) fun _ _ e => e)
  obtain ⟨u, rfl, hq⟩ := z
  exact wpAny_pure hq
end
end Lm

namespace Lm
open PySem L2 RZ
theorem walk_zipT {K : PySem.W.Frag} {a b : Addr} {xs ys : List V} {n : Nat} (hn : n = min xs.length ys.length) : Walk (ItzT K a b) n (fun H => SqT K H a xs ∧ SqT K H b ys) (YPair (fun i => xs[i]?) (fun i => ys[i]?)) := by
  subst hn
  refine ⟨fun i _ hi q => ?_, fun _ q => ⟨xs, ys, q.1, q.2, by omega⟩, fun i H v H' _ q y => ?_⟩
  · have h1 : i < xs.length := by omega
    have h2 : i < ys.length := by omega
    exact ⟨xs, ys, xs[i], ys[i], q.1, q.2, by simp [h1], by simp [h2]⟩
  · obtain ⟨T, x, z, h1, h2, h3, h4, h5⟩ := y
    exact ⟨T, x, z, h1, h2, h3, h4 xs q.1, h5 ys q.2⟩
/-- built-in values whose own == declines an instance -/
inductive TyE (H : Hp) : V → String → Prop where
  | non : TyE H .non "NoneType"
  | int (i : Int) : TyE H (.int i) "int"
  | str (x : Str) : TyE H (.str x) "str"
  | lst {a : Addr} {xs : List V} (e : H a = some (.lst xs)) : TyE H (.ref a) "list"
  | tup {a : Addr} {xs : List V} (e : H a = some (.tup xs)) : TyE H (.ref a) "tuple"
section
variable {X : Cx} {CX : CXT} {k : Nat} {f C : Addr} {fd : FuncData} {ps : List Str} {sp : Sp} {E : XK}
theorem op_or {op : Value → Value → Sem Value} {r r' : R2} (h : OpR X op r) (h' : OpR X op r') : OpR X op (fun x y H Q => r x y H Q ∨ r' x y H Q) := by
  intro pins s σ H x y v u Q I rx ry q
  rcases q with q | q
  · exact h pins s σ H x y v u Q I rx ry q
  · exact h' pins s σ H x y v u Q I rx ry q
/-- x == y, x an instance with an own ==, y anything -/
def rEqL (K : PySem.W.Frag) (C : Addr) (sp : Sp) (E : XK) : R2 := fun x y H Q => ∃ a dx fs t, x = .ref a ∧ H a = some (.ins C dx fs) ∧ TyX K H y t ∧ PySem.W.notFirst K C t = true ∧ sp [x, y] H Q E
theorem op_eqL (F : FnOk X.prog X.w X.K X.mg X.base CX k f fd ps sp) (hs : PySem.W.findIn X.K (.ref C) "__eq__" = some (some (.ref f))) (hf : PySem.W.isFn X.K (.ref f) = true) (hb : Binds X.K fd ps []) (hr : Room k X.A) (hx : Passes CX X E) :
    OpR X (compareOp .Eq) (rEqL X.K C sp E) := by
  intro pins s σ H x y v u Q I rx ry h
  obtain ⟨a, dx, fs, t, rfl, ha, ty, hn, q⟩ := h
  cases (show v = Value.ref a from rx)
  obtain ⟨mA, J, _⟩ := ins_get I.hok ha
  obtain ⟨od, J, _⟩ := J.look
  obtain ⟨P, Z, p, _⟩ := kit_of I ry ty
  obtain ⟨m, hF⟩ := I.fr
  show wpAny _ _ (richCompare .Eq _ _) _ _ _
  refine PySem.W.cmp_K (op := .Eq) (tb := t) hr.units0 hF I.ok.mod.kin J (Z.ty _ _ I.kIn p) hn hs hf (wpAny_mono (run_in (us := [.ref a, u]) (vs := [.ref a, y]) F hr I.env0 hb hx I (.cons rfl (.cons ry .nil)) q) (fun w s' z => ?_) fun _ _ x => x)
  obtain ⟨z', H', I', rz, qz⟩ := z
  exact cmpBack rz ⟨z', H', I', rz, qz⟩
/-- x != y, x an instance with an own == alone, y anything -/
def rNeL (K : PySem.W.Frag) (C : Addr) (sp : Sp) (E : XK) : R2 := fun x y H Q => ∃ a dx fs t, x = .ref a ∧ H a = some (.ins C dx fs) ∧ TyX K H y t ∧ PySem.W.notFirst K C t = true ∧ sp [x, y] H (fun z H' => ∃ k : Bool, z = .bl k ∧ Q (.bl (!k)) H') E
theorem op_neL (F : FnOk X.prog X.w X.K X.mg X.base CX k f fd ps sp) (hs : PySem.W.findIn X.K (.ref C) "__eq__" = some (some (.ref f))) (hf : PySem.W.isFn X.K (.ref f) = true) (hb : Binds X.K fd ps [])
    (hn : PySem.W.findIn X.K (.ref C) "__ne__" = some (some (.builtin "object.__ne__"))) (ho : PySem.W.subIn X.K (.ref C) (.type "object") = some true) (hr : Room (k + 1) X.A) (hx : Passes CX X E) :
    OpR X (compareOp .NotEq) (rNeL X.K C sp E) := by
  intro pins s σ H x y v u Q I rx ry h
  obtain ⟨a, dx, fs, t, rfl, ha, ty, hnf, q⟩ := h
  cases (show v = Value.ref a from rx)
  obtain ⟨mA, J, _⟩ := ins_get I.hok ha
  obtain ⟨od, J, _⟩ := J.look
  obtain ⟨P, Z, p, _⟩ := kit_of I ry ty
  obtain ⟨m, hF⟩ := I.fr
  show wpAny _ _ (richCompare .NotEq _ _) _ _ _
  refine ne_own (tb := t) (by have := hr.un; omega) hF I.ok.mod.kin J (Z.ty _ _ I.kIn p) hnf hn ho hs hf
    (wpAny_mono (run_in (us := [.ref a, u]) (vs := [.ref a, y]) F hr.in1 I.env0.in1 hb hx I (.cons rfl (.cons ry .nil)) q) (fun w s' z => ?_) fun _ _ x => x)
  obtain ⟨z', H', I', rz, b, ez, qz⟩ := z
  subst ez
  cases (show w = Value.bool b from rz)
  exact ⟨b, rfl, .bl _, H', I', rfl, qz⟩
/-- x == y, x of a built-in type, y an instance with an own == -/
def rEqR (K : PySem.W.Frag) (C : Addr) (sp : Sp) (E : XK) : R2 := fun x y H Q => ∃ b dy gs T, y = .ref b ∧ H b = some (.ins C dy gs) ∧ TyE H x T ∧ PySem.W.subIn K (.ref C) (.type T) = some false ∧ sp [y, x] H Q E
theorem op_eqR (F : FnOk X.prog X.w X.K X.mg X.base CX k f fd ps sp) (hs : PySem.W.findIn X.K (.ref C) "__eq__" = some (some (.ref f))) (hf : PySem.W.isFn X.K (.ref f) = true) (hb : Binds X.K fd ps []) (hr : Room k X.A) (hx : Passes CX X E) :
    OpR X (compareOp .Eq) (rEqR X.K C sp E) := by
  intro pins s σ H x y v u Q I rx ry h
  obtain ⟨b, dy, gs, T, rfl, hb', ty, hsub, q⟩ := h
  cases (show u = Value.ref b from ry)
  obtain ⟨mA, J, _⟩ := ins_get I.hok hb'
  obtain ⟨od, J, _⟩ := J.look
  obtain ⟨m, hF⟩ := I.fr
  show wpAny _ _ (richCompare .Eq _ _) _ _ _
  have run : wpAny (model X.prog X.w) X.A (call (.ref f) [.ref b, v]) (PySem.W.CmpBack (EP X pins σ Q)) X.xe s := by
    refine wpAny_mono (run_in (us := [.ref b, v]) (vs := [.ref b, x]) F hr I.env0 hb hx I (.cons rfl (.cons rx .nil)) q) (fun w s' z => ?_) fun _ _ x => x
    obtain ⟨z', H', I', rz, qz⟩ := z
    exact cmpBack rz ⟨z', H', I', rz, qz⟩
  have hin : ∀ (T : String), PySem.W.subIn X.K (.ref C) (.type T) = some false → ∀ prog w, PySem.W.Looks (model prog w) s.heap (isInstance (.ref b) (.type T)) false := fun T h prog w => J.type.andThen (PySem.W.looks_subIn I.kIn h)
  cases ty with
  | non =>
    cases (show v = Value.none from rx)
    exact eq_refl_K hr.units0 hF I.ok.mod.kin J rfl PySem.F.slot_NoneType_eq hsub hs hf (fun Q' hq => call_gives PySem.F.slot_NoneType_eq rfl PySem.F.entry_NoneType_eq (PySem.F.args_NoneType_eq_2 _ _) (SeqAt.NoneType___eq___none_ref_0 b) hq) run
  | int i =>
    obtain ⟨t, e⟩ := (show ∃ t, v = Value.int i t from rx)
    subst e
    exact eq_refl_K hr.units0 hF I.ok.mod.kin J (typeIs_int _ i t) PySem.F.slot_int_eq hsub hs hf (fun Q' hq => PySem.call_givesAt PySem.F.slot_int_eq (typeIs_int _ i t) PySem.F.entry_int_eq (PySem.F.args_int_eq_2 _ _) (int_eq_ins i t b) J.at_ hq) run
  | str i =>
    obtain ⟨t, e⟩ := (show ∃ t, v = Value.str i t from rx)
    subst e
    exact eq_refl_K hr.units0 hF I.ok.mod.kin J (typeIs_str _ i t) PySem.F.slot_str_eq hsub hs hf (fun Q' hq => PySem.call_givesAt PySem.F.slot_str_eq (typeIs_str _ i t) PySem.F.entry_str_eq (PySem.F.args_str_eq_2 _ _) (str_eq_ins i t b) J.at_ hq) run
  | @lst a xs e =>
    cases (show v = Value.ref a from rx)
    obtain ⟨_, _, n, _, h1⟩ := (show ObjOk X.prog X.w H s.heap a (.lst xs) from I.hok a _ e)
    exact eq_refl_K hr.units0 hF I.ok.mod.kin J ⟨_, h1, rfl⟩ PySem.F.slot_list_eq hsub hs hf (fun Q' hq => PySem.call_givesAt PySem.F.slot_list_eq ⟨_, h1, rfl⟩ PySem.F.entry_list_eq (PySem.F.args_list_eq_2 _ _) (list_eq_ins a b) ⟨h1, hin _ hsub⟩ hq) run
  | @tup a xs e =>
    cases (show v = Value.ref a from rx)
    obtain ⟨_, _, _, ⟨oc, od', dt, sl⟩, h1, h2, n, h3⟩ := (show ObjOk X.prog X.w H s.heap a (.tup xs) from I.hok a _ e)
    simp only at h2 h3
    subst h2 h3
    exact eq_refl_K hr.units0 hF I.ok.mod.kin J ⟨_, h1, rfl⟩ PySem.F.slot_tuple_eq hsub hs hf (fun Q' hq => PySem.call_givesAt PySem.F.slot_tuple_eq ⟨_, h1, rfl⟩ PySem.F.entry_tuple_eq (PySem.F.args_tuple_eq_2 _ _) (tuple_eq_ins a b) ⟨h1, hin _ hsub⟩ hq) run
theorem MetOk.eqL (D : MetOk X.prog X.w X.K X.mg X.base k C "__eq__" f fd ps sp) (hr : Room k X.A) : OpR X (compareOp .Eq) (rEqL X.K C sp E0) := op_eqL D.ok D.mt.at_ D.mt.fn D.bd hr pass0
theorem MetOk.eqR (D : MetOk X.prog X.w X.K X.mg X.base k C "__eq__" f fd ps sp) (hr : Room k X.A) : OpR X (compareOp .Eq) (rEqR X.K C sp E0) := op_eqR D.ok D.mt.at_ D.mt.fn D.bd hr pass0
theorem MetOk.neL (D : MetOk X.prog X.w X.K X.mg X.base k C "__eq__" f fd ps sp) (hn : PySem.W.findIn X.K (.ref C) "__ne__" = some (some (.builtin "object.__ne__"))) (ho : PySem.W.subIn X.K (.ref C) (.type "object") = some true) (hr : Room (k + 1) X.A) :
    OpR X (compareOp .NotEq) (rNeL X.K C sp E0) := op_neL D.ok D.mt.at_ D.mt.fn D.bd hn ho hr pass0
end
def rAddS : R2 := fun x y H Q => ∃ i j, x = .str i ∧ y = .str j ∧ i.length + j.length ≤ sizeLine ∧ Q (.str (i ++ j)) H
/-! ### C(k2 = b, k1 = a) -/
def swapR {α : Type} (us ws : List α) : List α := us ++ ws.reverse
theorem vals_snoc : ∀ {vs : List V} {us : List Value} {v : V} {u : Value}, Vals vs us → RelV v u → Vals (vs ++ [v]) (us ++ [u])
  | _, _, _, _, .nil, r => .cons r .nil
  | _, _, _, _, .cons a b, r => .cons a (vals_snoc b r)
theorem vals_rev : ∀ {vs : List V} {us : List Value}, Vals vs us → Vals vs.reverse us.reverse
  | _, _, .nil => .nil
  | _, _, .cons a b => by rw [List.reverse_cons, List.reverse_cons]; exact vals_snoc (vals_rev b) a
theorem vals_app : ∀ {vs : List V} {us : List Value} {ws : List V} {zs : List Value}, Vals vs us → Vals ws zs → Vals (vs ++ ws) (us ++ zs)
  | _, _, _, _, .nil, r => r
  | _, _, _, _, .cons a b, r => .cons a (vals_app b r)
theorem Fun.swap {K : PySem.W.Frag} {x qual : Str} {st : Stmt} {f : Addr} {fd : FuncData} {ps : List Str} {k1 k2 : Str} (F : Fun K x qual st f fd)
    (h : ∀ (kV doc pm : Value) (an : Option Addr) (cdv ct : Value) (a b c : Value), bindArgs (PySem.W.fnOf x qual (defArgs st) (defBody st) (defScope st) .none kV doc pm an cdv ct) ⟨[a], [(k2, c), (k1, b)]⟩ = pure (ps.zip [a, b, c])) : KBn K fd ps 1 [k2, k1] swapR swapR := by
  obtain ⟨oc, od, kV, doc, pm, an, cdv, ct, osl, rfl, lk, hcd⟩ := F.ex
  refine ⟨fun s us ws X l1 l2 => ?_, fun r1 r2 => vals_app r1 (vals_rev r2)⟩
  match us, ws, l1, l2 with
  | [a], [c, b], _, _ => exact .of_eq (h kV doc pm an cdv ct a b c)
section
variable {X : Cx} {k : Nat} {f C : Addr} {fd : FuncData} {ps ks : List Str} {sp : Sp} {x : Str} {p pos : Pos} {kws : List Keyword} {tk : TA} {g : List Value → List Value → List Value} {gV : List V → List V → List V}
theorem pe_mkK (D : ClsOk X.prog X.w X.K X.mg X.base k x C f fd ps sp) (hb : KBn X.K fd ps 1 ks g gV) (hr : Room (k + 1) X.A) (hkw : PK X kws tk) (hg : Gl X x := by rfl) (hdb : (x == ("__debug__" : Str)) = false := by decide)
    (hall : (backToKw pos (keywordEach kws X.env)).all (·.1.isSome) = true := by rfl) (hks : (backToKw pos (keywordEach kws X.env)).filterMap (·.1) = ks := by rfl)
    (hpl : ((backTo pos (starEach [] X.env)).any (·.1) || (backToKw pos (keywordEach kws X.env)).any (·.1.isNone)) = false := by rfl) :
    PE X (.Call (.Name x p) [] kws pos) (tMakeK C 0 ks.length sp gV E0 tNil tk) := pe_makeK0 D.mkr D.ok hr hg D.mg hb pass0 hkw hall hks hdb hpl
end
end Lm

namespace Lm
open PySem L2
section
variable {X : Cx} {C : Addr} {bmB : List Value} {B newId initId : String}
/-- X(), X an own exception class without own __init__ -/
theorem pmk_own0 {x : Str} {p pos : Pos} (F : ExcBaseFacts B newId initId bmB) (q : PySem.W.excIn X.K C bmB newId = true) (gC : X.mg x = some (.ref C)) (kC : PySem.W.keepIn X.K (.ref C) = true) (r : Raises X (.ref C)) (hg : Gl X x := by rfl) (hdb : (x == ("__debug__" : Str)) = false := by decide) :
    PMk X (.Call (.Name x p) [] [] pos) (fun _ H Q => Q (.ref C) none H) := by
  intro pins s σ H Q I h
  refine wpAny_Call_Name_kw (ld_glob I hg gC ?_ hdb)
  refine PySem.W.callWith_K0 (first := []) I.kIn kC ?_
  show wpAny _ _ (call (.ref C) []) _ _ _
  obtain ⟨bm, N, nm, qn, bs, hdct, sn, sub, ab, col, dd, k0, k1, k2, k3, k5, mN, hC, hN, hni, T⟩ := exc_obj I.kIn q
  refine wpAny_call_exc_subT F T hC hN hni (fun h' e hm => ?_) (Nat.zero_le _)
  exact mk_of I hm r h (I.hok.gone hm.new)
end
/-- what the text says of an own error -/
structure ErrTxt (K : PySem.W.Frag) (mg : Str → Option Value) (x : Str) (C : Addr) : Prop where
  g : mg x = some (.ref C)
  xi : PySem.W.excIn K C [.type "ValueError", .type "Exception", .type "BaseException", .type "object"] "ValueError.__new__" = true
  kp : PySem.W.keepIn K (.ref C) = true
  b : PySem.W.subIn K (.ref C) (.type "BaseException") = some true
  t : PySem.W.typeIn K (.ref C) = some (.type "type")
  ic : PySem.W.isClsIn K C = true
  self : PySem.W.subIn K (.ref C) (.ref C) = some true
/-- an error of the class at S is what «except S» names -/
theorem exm_self {K : PySem.W.Frag} {S : Addr} (h1 : PySem.W.subIn K (.ref S) (.type "BaseException") = some true) (h2 : PySem.W.isClsIn K S = true) (h3 : PySem.W.typeIn K (.ref S) = some (.type "type")) (h4 : PySem.W.subIn K (.ref S) (.ref S) = some true) :
    PySem.W.exmOne K (.ref S) (.ref S) = some true := by
  have e1 : (PySem.W.subIn K (.ref S) (.type "BaseException") == some true) = true := by rw [h1] <;> rfl
  have e2 : ((PySem.W.clsIn K S).isSome && PySem.W.typeIn K (.ref S) == some (.type "type")) = true := by
    have h2' : (PySem.W.clsIn K S).isSome = true := h2
    rw [h2', h3] <;> rfl
  show (if (PySem.W.subIn K (.ref S) (.type "BaseException") == some true) = true then (if ((PySem.W.clsIn K S).isSome && PySem.W.typeIn K (.ref S) == some (.type "type")) = true then PySem.W.subIn K (.ref S) (.ref S) else none) else none) = some true
  rw [if_pos e1, if_pos e2]
  exact h4
theorem ErrTxt.exm {K : PySem.W.Frag} {mg : Str → Option Value} {x : Str} {C : Addr} (T : ErrTxt K mg x C) : PySem.W.exmOne K (.ref C) (.ref C) = some true := exm_self T.b T.ic T.t T.self
theorem ErrTxt.call {X : Cx} {x : Str} {C : Addr} {p pos : Pos} (T : ErrTxt X.K X.mg x C) (hg : Gl X x := by rfl) (hdb : (x == ("__debug__" : Str)) = false := by decide) : PMk X (.Call (.Name x p) [] [] pos) (fun _ H Q => Q (.ref C) none H) :=
  pmk_own0 PySem.F.excBase_ValueError T.xi T.g T.kp (raises_own T.b T.t) hg hdb
/-! ### defs and methods that raise -/
structure DefOkX (P : Program) (w : World) (K : PySem.W.Frag) (mg : Str → Option Value) (base : Heap) (k : Nat) (x : Str) (f : Addr) (fd : FuncData) (ps : List Str) (sp : Sp) : Prop where
  ok : FnOk P w K mg base (L2.CX P w) k f fd ps sp
  kp : PySem.W.keepIn K (.ref f) = true
  bd : Binds K fd ps []
  mg : mg x = some (.ref f)
structure MetOkX (P : Program) (w : World) (K : PySem.W.Frag) (mg : Str → Option Value) (base : Heap) (k : Nat) (C : Addr) (m : Str) (f : Addr) (fd : FuncData) (ps : List Str) (sp : Sp) : Prop where
  ok : FnOk P w K mg base (L2.CX P w) k f fd ps sp
  bd : Binds K fd ps []
  mt : Meth K C m f
  cl : Cls K C
/-- o.m(e, ..) that may raise, at the slots -/
def tMethE (C : Addr) (m : Str) (sp : Sp) (E : St → XK) (ta : TE) (t : TA) : TE := fun σ H Q => ta σ H fun x H1 => ∃ a dx fs, x = .ref a ∧ H1 a = some (.ins C dx fs) ∧ fs.lookup m = none ∧ t σ H1 fun vs H2 => sp (.ref a :: vs) H2 Q (E σ)
/-- o.m(k = v, ..) -/
def tMethK (C : Addr) (m : Str) (n : Nat) (sp : Sp) (gV : List V → List V → List V) (E : XK) (ta : TE) (tk : TA) : TE := fun σ H Q => ta σ H fun x H1 => ∃ a dx fs, x = .ref a ∧ H1 a = some (.ins C dx fs) ∧ fs.lookup m = none ∧ tk σ H1 fun zs H2 => zs.length = n ∧ sp (gV [.ref a] zs) H2 Q E
section
variable {X : Cx} {k : Nat} {f C : Addr} {fd : FuncData} {ps ks : List Str} {sp : Sp} {E : XK} {x m : Str} {p pos apos : Pos} {e o : Expr} {es : List Expr} {kws : List Keyword} {ta : TE} {t tk : TA} {g : List Value → List Value → List Value} {gV : List V → List V → List V}
theorem pe_dX (D : DefOkX X.prog X.w X.K X.mg X.base k x f fd ps sp) (hr : Room k X.A) (hx : Passes (L2.CX X.prog X.w) X E) (ha : PA X (e :: es) t) (hg : Gl X x := by rfl) (hdb : (x == ("__debug__" : Str)) = false := by decide)
    (he : starEach (e :: es) X.env = (false, eval e X.env) :: starEach es X.env := by rfl) (hpl : (backTo pos (starEach es X.env)).any (·.1) = false := by rfl) :
    PE X (.Call (.Name x p) (e :: es) [] pos) (tCall sp [] E t) := pe_call D.ok hr hg D.mg D.kp D.bd .nil hx ha hdb he hpl
theorem pe_mX {pl : Sem Bool} {E : St → XK} (D : MetOkX X.prog X.w X.K X.mg X.base k C m f fd ps sp) (hr : Room k X.A) (hx : ∀ σ, PassesAt (L2.CX X.prog X.w) X σ (E σ)) (he : PE X o ta) (ha : PA X (e :: es) t)
    (hst : starEach (e :: es) X.env = (false, eval e X.env) :: starEach es X.env := by rfl) (hpl : (backTo pos (starEach es X.env)).any (·.1) = false := by rfl)
    (ht : eval (.Call (.Attribute o m apos) (e :: es) [] pos) X.env = (do
      let ov ← eval o X.env
      standAt apos.atName
      let (f, first) ← holding [ov] (getMethod ov m pl)
      callWith pos f first (backTo pos (starEach (e :: es) X.env)) (backToKw pos (keywordEach [] X.env))) := by rfl) :
    PE X (.Call (.Attribute o m apos) (e :: es) [] pos) (tMethE C m sp E ta t) := by
  refine ⟨fun pins s σ H Q I h => ?_⟩
  refine PySem.W.methodCall_KW (pl := pl) (thn (he.run pins s σ H _ I h) fun u s1 ⟨x, H1, I1, rx, a, dx, fs, ex, ea, l, q⟩ => ?_) ht
  subst ex
  obtain rfl : u = Value.ref a := rx
  refine getmeth_ok I1 ea D.cl D.mt l ?_
  refine PySem.W.callWith_K (first := [.ref a]) (h₀ := X.base) I.ok.mod.kin D.mt.kp (thn (ha.run pos pins s1 σ H1 _ I1 q) fun us s2 ⟨vs, H2, I2, r, q2⟩ => ⟨I2.kIn, ?_⟩) hst hpl
  exact run_fnS (us := .ref a :: us) (vs := .ref a :: vs) D.ok hr D.bd (hx σ) I2 (.cons rfl r) q2
theorem pe_mk_ {pl : Sem Bool} (D : MetOk X.prog X.w X.K X.mg X.base k C m f fd ps sp) (hb : KBn X.K fd ps 1 ks g gV) (hr : Room k X.A) (he : PE X o ta) (hkw : PK X kws tk)
    (hall : (backToKw pos (keywordEach kws X.env)).all (·.1.isSome) = true := by rfl) (hks : (backToKw pos (keywordEach kws X.env)).filterMap (·.1) = ks := by rfl)
    (hpl : ((backTo pos (starEach [] X.env)).any (·.1) || (backToKw pos (keywordEach kws X.env)).any (·.1.isNone)) = false := by rfl)
    (ht : eval (.Call (.Attribute o m apos) [] kws pos) X.env = (do
      let ov ← eval o X.env
      standAt apos.atName
      let (f, first) ← holding [ov] (getMethod ov m pl)
      callWith pos f first (backTo pos (starEach [] X.env)) (backToKw pos (keywordEach kws X.env))) := by rfl) :
    PE X (.Call (.Attribute o m apos) [] kws pos) (tMethK C m ks.length sp gV E0 ta tk) := by
  refine ⟨fun pins s σ H Q I h => ?_⟩
  refine PySem.W.methodCall_KW (pl := pl) (thn (he.run pins s σ H _ I h) fun u s1 ⟨x, H1, I1, rx, a, dx, fs, ex, ea, l, q⟩ => ?_) ht
  subst ex
  obtain rfl : u = Value.ref a := rx
  refine getmeth_ok I1 ea D.cl D.mt l ?_
  refine PySem.W.callWith_KW0 (first := [.ref a]) (h₀ := X.base) I.ok.mod.kin D.mt.kp hall ?_ hpl
  refine thn (hkw.run pos pins s1 σ H1 _ I1 q) fun ws s2 ⟨zs, H2, I2, rz, l2, q2⟩ => ⟨I2.kIn, ?_⟩
  rw [hks]
  have r2 := hb.rel (vs := [V.ref a]) (us := [Value.ref a]) (.cons rfl .nil) rz
  show wpAny _ _ (call (.ref f) [.ref a] (ks.zip ws)) _ _ _
  refine wpAny_call (codeAny_mono (D.ok.run X.A X.stack s2 H2 ⟨[.ref a], ks.zip ws⟩ (g [.ref a] ws) (gV [.ref a] zs) Q E0 hr I2.env0 (hb.to s2 [.ref a] ws I2.kIn rfl (rz.length.symm.trans l2)) r2 q2) fun r s' hq => ?_)
  cases r with
  | error e => exact pass0 pins σ H2 s2 e s' I2 hq
  | ok fl =>
    cases fl with
    | ret u => exact I2.after hq
    | next => exact False.elim hq
    | brk => exact False.elim hq
    | cont => exact False.elim hq
end
/-- one keyword alone -/
def oneR {α : Type} (us ws : List α) : List α := us ++ ws
theorem Fun.kone {K : PySem.W.Frag} {x qual : Str} {st : Stmt} {f : Addr} {fd : FuncData} {ps : List Str} {k1 : Str} (F : Fun K x qual st f fd)
    (h : ∀ (kV doc pm : Value) (an : Option Addr) (cdv ct : Value) (a b : Value), bindArgs (PySem.W.fnOf x qual (defArgs st) (defBody st) (defScope st) .none kV doc pm an cdv ct) ⟨[a], [(k1, b)]⟩ = pure (ps.zip [a, b])) : KBn K fd ps 1 [k1] oneR oneR := by
  obtain ⟨oc, od, kV, doc, pm, an, cdv, ct, osl, rfl, lk, hcd⟩ := F.ex
  refine ⟨fun s us ws X l1 l2 => ?_, fun r1 r2 => vals_app r1 r2⟩
  match us, ws, l1, l2 with
  | [a], [b], _, _ => exact .of_eq (h kV doc pm an cdv ct a b)
end Lm

namespace Lm
open PySem L2 PyProof.Rows PySem.Spec
theorem tuple_mul_same (l : Addr) (items : Array Value) (n : Nat) (dd : Option Addr) (sl : Array (Option Value)) (x : Int) (u : Tok) (c0 : (decide (x < -(2 ^ 63)) || decide (x ≥ 2 ^ 63)) = false) (c1 : (items.isEmpty || x == 1) = true) :
    Meets (Builtin.«tuple.__mul__» ⟨[.ref l, .int x u], []⟩) (fun _ R s => s.heap.get? l = some { cls := .type "tuple", dict := dd, data := .seq items n, slots := sl } ∧ R (.ok (.ret (Value.ref l))) s) :=
  .of_wp fun prog w A R s h => by
    obtain ⟨hp, g, d, tk, os⟩ := s
    obtain ⟨hl, h⟩ := h
    have f1 := AutoSeq1.idx_int
    wp_walk using wpAny_loadPart' hl, wpAny_load hl
    repeat (first
      | (refine wpAny_ite_false (decide_eq_false (by rw [c0]; exact Bool.false_ne_true)) ?_; wp_walk using wpAny_loadPart' hl, wpAny_load hl)
      | (refine wpAny_ite_true (decide_eq_true (by rw [c1])) ?_; wp_walk using wpAny_loadPart' hl, wpAny_load hl))
    all_goals first | exact ⟨_, rfl, h⟩ | exact h | skip
theorem tuple_mul_zero (l : Addr) (items : Array Value) (n : Nat) (dd : Option Addr) (sl : Array (Option Value)) (x : Int) (u : Tok) (c0 : (decide (x < -(2 ^ 63)) || decide (x ≥ 2 ^ 63)) = false) (c1 : (items.isEmpty || x == 1) = false) (c2 : (decide (x ≤ 0) || items.isEmpty) = true) :
    Meets (Builtin.«tuple.__mul__» ⟨[.ref l, .int x u], []⟩) (fun _ R s => s.heap.get? l = some { cls := .type "tuple", dict := dd, data := .seq items n, slots := sl } ∧ 
      R (.ok (.ret (Value.ref s.heap.objs.size))) { s with heap := s.heap.push { cls := Value.type "tuple", data := Data.seq #[] }, toks := s.toks }) :=
  .of_wp fun prog w A R s h => by
    obtain ⟨hp, g, d, tk, os⟩ := s
    obtain ⟨hl, h⟩ := h
    have f1 := AutoSeq1.idx_int
    wp_walk using wpAny_loadPart' hl
    repeat (first
      | (refine wpAny_ite_false (decide_eq_false (by rw [c0]; exact Bool.false_ne_true)) ?_; wp_walk using wpAny_loadPart' hl)
      | (refine wpAny_ite_false (decide_eq_false (by rw [c1]; exact Bool.false_ne_true)) ?_; wp_walk using wpAny_loadPart' hl)
      | (refine wpAny_ite_true (decide_eq_true (by rw [c2])) ?_; wp_walk using wpAny_loadPart' hl))
    all_goals first | exact ⟨_, rfl, h⟩ | exact h | skip
def rRepTA (K : PySem.W.Frag) : R2 := fun x y H Q => ∃ l k xs, x = .ref l ∧ y = .int k ∧ SqT K H l xs ∧ 0 ≤ k ∧ k ≤ 1000 ∧ xs.length ≤ 1000 ∧ ((xs = [] ∨ k = 1) → Q (.ref l) H) ∧ (¬ (xs = [] ∨ k = 1) → ∀ p, H p = none → Q (.ref p) (upd H p (.tup (List.replicate k.toNat xs).flatten)))
section
variable {X : Cx}
theorem op_repTA : OpR X (binaryOp .Mult) (rRepTA X.K) := by
  intro pins s σ H x y v u Q I rx ry h
  obtain ⟨l, k, xs, rfl, rfl, hT, h1, h2, hz, q1, q2⟩ := h
  by_cases hsame : xs = [] ∨ k = 1
  · have q1 := q1 hsame
    cases rx
    obtain ⟨t, rfl⟩ := ry
    obtain ⟨its, r, ⟨⟨cls, dd, data, sl⟩, ho, hc, n, hd⟩, hs⟩ := I.tuple hT
    simp only at hc hd
    subst hc hd
    have hle : its.length = xs.length := r.length.symm
    have c0 : (decide (k < -(2 ^ 63)) || decide (k ≥ 2 ^ 63)) = false := by
      rw [decide_eq_false (by omega), decide_eq_false (by omega)] <;> rfl
    have c1 : (its.toArray.isEmpty || k == 1) = true := by
      rcases hsame with e | e
      · rw [e] at hle
        have : its = [] := List.eq_nil_of_length_eq_zero hle
        rw [this]
        rfl
      · rw [e]
        cases its <;> rfl
    refine wpAny_binaryOp_repeat_ref (T := "tuple") (U := "int") (by decide) ⟨_, ho, rfl⟩ (fun s' => typeIs_int s' k t) noFill_tuple_mul F.fills_int_mul F.slot_int_rmul repeat_tuple F.slot_int_index.lookup
      (call_meets F.slot_int_rmul (typeIs_int s k t) F.entry_int_rmul (F.args_int_rmul_2 _ _) (int_rmul_tuple k t l its.toArray n dd sl)
        ⟨ho, rfl, ⟨_, ho, rfl⟩, call_meets F.slot_tuple_mul ⟨_, ho, rfl⟩ F.entry_tuple_mul (F.args_tuple_mul_2 _ _) (tuple_mul_same l its.toArray n dd sl k t c0 c1) ⟨ho, ?_⟩⟩)
    exact ⟨.ref l, H, I, rfl, q1⟩
  · have q2 := q2 hsame
    have hne : xs ≠ [] := fun e => hsame (.inl e)
    have hk1 : k ≠ 1 := fun e => hsame (.inr e)
    by_cases hk : 2 ≤ k
    · exact op_repT pins s σ H _ _ v u Q I rx ry ⟨l, k, xs, rfl, rfl, hT, hne, hk, h2, hz, q2⟩
    · have hk0 : k = 0 := by omega
      subst hk0
      cases rx
      obtain ⟨t, rfl⟩ := ry
      obtain ⟨its, r, ⟨⟨cls, dd, data, sl⟩, ho, hc, n, hd⟩, hs⟩ := I.tuple hT
      simp only at hc hd
      subst hc hd
      have hle : its.length = xs.length := r.length.symm
      have hn : its ≠ [] := fun e => hne (by
        rw [e] at hle
        exact List.eq_nil_of_length_eq_zero hle.symm)
      have hi : its.toArray.isEmpty = false := by
        cases its with
        | nil => exact absurd rfl hn
        | cons a b => rfl
      refine wpAny_binaryOp_repeat_ref (T := "tuple") (U := "int") (by decide) ⟨_, ho, rfl⟩ (fun s' => typeIs_int s' 0 t) noFill_tuple_mul F.fills_int_mul F.slot_int_rmul repeat_tuple F.slot_int_index.lookup
        (call_meets F.slot_int_rmul (typeIs_int s 0 t) F.entry_int_rmul (F.args_int_rmul_2 _ _) (int_rmul_tuple 0 t l its.toArray n dd sl)
          ⟨ho, rfl, ⟨_, ho, rfl⟩, call_meets F.slot_tuple_mul ⟨_, ho, rfl⟩ F.entry_tuple_mul (F.args_tuple_mul_2 _ _) (tuple_mul_zero l its.toArray n dd sl 0 t (by decide) (by rw [hi]; rfl) (by rw [hi]; rfl)) ⟨ho, ?_⟩⟩)
      refine ⟨.ref s.heap.objs.size, _, I.laid (t' := s.toks) (o := .tup (List.replicate (0 : Int).toNat xs).flatten) (fun b ob q => Heap.get?_push_of_some _ q) (Nat.le_refl _) ?_, rfl, q2 _ (I.hok.fresh (Nat.le_refl _))⟩
      exact ⟨by show 0 ≤ sizeLine; decide, _, .nil, IsTup.new _ _⟩
end
end Lm

namespace Lm
open PySem L2 Evl
/-! ### own errors whose __init__ keeps one thing -/
/-- what the text says of an own error with __init__ -/
structure ErrF (K : PySem.W.Frag) (mg : Str → Option Value) (x : Str) (C fI : Addr) (fn : Str) : Prop where
  g : mg x = some (.ref C)
  T : OexC K C
  X : XfC K C
  ini : PySem.W.findIn K (.ref C) "__init__" = some (some (.ref fI))
  ty : PySem.W.typeIn K (.ref fI) = some (.type "function")
  no : PySem.W.findIn K (.ref C) fn = some none
  ic : PySem.W.isClsIn K C = true
  self : PySem.W.subIn K (.ref C) (.ref C) = some true
theorem ErrF.exm {K : PySem.W.Frag} {mg : Str → Option Value} {x : Str} {C fI : Addr} {fn : Str} (T : ErrF K mg x C fI fn) : PySem.W.exmOne K (.ref C) (.ref C) = some true := exm_self T.T.exC T.ic T.T.tyC T.self
def spErrI (C : Addr) (fn : Str) : Sp := fun vs H Q _ => ∃ (a : Addr) (v : V), vs = [.ref a, v] ∧ H a = some (exo a C none) ∧ ∀ dx, H dx = none → dx ≠ a → Q .non (upd (upd H dx (exd dx [(fn, v)])) a (exo a C (some dx)))
theorem go_mkO {C : Addr} {fn : Str} {te : TE} {σ : L2.St} {H : Hp} {Q : XK} {v : V} (h : Ev te σ H v) (k : ∀ H1 d, Ex H H1 → H1 d = none → Q (.ref C) (some d) (upd H1 d (.xd [(fn, v)]))) : tMkO C (spErrI C fn) [] (tCons te tNil) σ H Q :=
  h H (Ex.refl H) _ fun H1 e1 => ⟨by show 1 ≤ 1000; decide, fun a na => ⟨a, v, rfl, upd_same, fun dx ndx hda => ⟨rfl, dx, [(fn, v)], upd_same, by rw [upd_ne hda]; exact upd_same, by rw [upd_ne hda] at ndx; exact ndx, by
    have hn : H1 dx = none := by rw [upd_ne hda] at ndx; exact ndx
    have e : upd (del (upd (upd (upd H1 a (exo a C none)) dx (exd dx [(fn, v)])) a (exo a C (some dx))) a) dx (.xd [(fn, v)]) = upd H1 dx (.xd [(fn, v)]) := by
      funext b
      by_cases hb : b = dx
      · subst hb
        rw [upd_same, upd_same]
      · rw [upd_ne hb, upd_ne hb]
        by_cases hba : b = a
        · subst hba
          rw [del_same, na]
        · rw [del_ne hba, upd_ne hba, upd_ne hb, upd_ne hba]
    rw [e]
    exact k H1 dx e1 hn⟩⟩⟩
end Lm

namespace Lm
open PySem L2 PyProof.Rows PySem.Spec
section
variable {M : Model} {A : Around} {E : Value → Shared → Prop} {s : Shared} {K : PySem.W.Frag} {pos : Pos} {x C : Addr} {first : List Value} {Q : Value → Shared → Prop}
/-- the instance as it stands at each time -/
def InsK (K : PySem.W.Frag) (x C : Addr) (h : Heap) : Prop := ∃ ox od, K.In h ∧ PySem.W.InstAt h x ox C od ∧ ox.data = .plain
theorem callWith_ins {args : List (Bool × Sem Value)} {keywords : List (Option Str × Sem Value)} (hplain : (args.any (·.1) || keywords.any (·.1.isNone)) = false)
    (h : wpAny M A (evalArgs (.ref x) true args keywords) (fun a s₁ => InsK K x C s₁.heap ∧ wpAny M A (call (.ref x) (first ++ a.pos) a.kw) Q E s₁) E s) : wpAny M A (callWith pos (.ref x) first args keywords) Q E s := by
  unfold callWith
  refine wpAny_bind (wpAny_holding (wpAny_mono h (fun a s₁ h₁ => wpAny_bind (wpAny_standAt ?_)) fun _ _ y => y))
  obtain ⟨⟨ox, od, X, I, hd⟩, hc⟩ := h₁
  have L := PySem.W.kco_keeper (M := M) I hd
  simp only [hplain]
  refine wpAny_bind (L.here ?_)
  exact wpAny_bind (wpAny_mono (wpAny_operateT hc) (fun r s₂ hr => wpAny_bind (wpAny_holding (wpAny_point (wpAny_pure hr)))) fun _ _ y => y)
end
/-- what the text says of own __call__ -/
structure CallM (K : PySem.W.Frag) (C g : Addr) : Prop where
  at_ : PySem.W.findIn K (.ref C) "__call__" = some (some (.ref g))
  isF : PySem.W.isFn K (.ref g) = true
  fn : PySem.W.fnIn K g = true
/-- the i-th slot holds an instance, which is called -/
def tCallO (i : Nat) (C : Addr) (sp : Sp) (E : L2.St → XK) (t : TA) : TE := fun σ H Q => ∃ a, σ[i]? = some (some (.ref a)) ∧ t σ H fun vs H1 => (∃ dx fs, H1 a = some (.ins C dx fs)) ∧ sp (.ref a :: vs) H1 Q (E σ)
def tCallOk (i : Nat) (C : Addr) (n : Nat) (sp : Sp) (gV : List V → List V → List V) (E : XK) (tk : TA) : TE := fun σ H Q => ∃ a, σ[i]? = some (some (.ref a)) ∧ tk σ H fun zs H1 => (∃ dx fs, H1 a = some (.ins C dx fs)) ∧ zs.length = n ∧ sp (gV [.ref a] zs) H1 Q E
section
variable {X : Cx} {CX : CXT} {k i : Nat} {f C : Addr} {fd : FuncData} {ps ks : List Str} {sp : Sp} {x : Str} {p pos : Pos} {e : Expr} {es : List Expr} {kws : List Keyword} {t tk : TA} {g : List Value → List Value → List Value} {gV : List V → List V → List V}
theorem ins_k {pins : List (Addr × Obj)} {σ : L2.St} {H : Hp} {s : Shared} {a dx : Addr} {fs : List (Str × V)} (I : Inv X pins σ H s) (h : H a = some (.ins C dx fs)) : InsK X.K a C s.heap := by
  obtain ⟨mA, O, r, _, _, _⟩ := ins_get I.hok h
  obtain ⟨od, hI, _⟩ := O.look
  exact ⟨_, _, I.kIn, hI, rfl⟩
theorem pe_callO {E : L2.St → XK} (F : FnOk X.prog X.w X.K X.mg X.base CX k f fd ps sp) (hm : CallM X.K C f) (hr : Room k X.A) (hb : Binds X.K fd ps []) (hx : ∀ σ, PassesAt CX X σ (E σ)) (hN : X.N[i]? = some x) (hv : Vis X.env.scope x) (ha : PA X (e :: es) t)
    (hdb : (x == ("__debug__" : Str)) = false := by decide) (hcd : (x == ("__classdict__" : Str)) = false := by decide)
    (he : starEach (e :: es) X.env = (false, eval e X.env) :: starEach es X.env := by rfl) (hpl : (backTo pos (starEach es X.env)).any (·.1) = false := by rfl) : PE X (.Call (.Name x p) (e :: es) [] pos) (tCallO i C sp E t) := by
  refine ⟨fun pins s σ H Q I h => ?_⟩
  obtain ⟨a, hs, ht⟩ := h
  refine wpAny_Call_Name_kw (thn ((pe_var (pos := p) hN hv hdb hcd).run pins s σ H (fun v H1 => v = .ref a ∧ H1 = H) I ⟨.ref a, hs, rfl, rfl⟩) fun u s1 ⟨v, H1, I1, r1, q1⟩ => ?_)
  obtain ⟨rfl, rfl⟩ := q1
  cases r1
  rw [he]
  refine callWith_ins (K := X.K) (C := C) (by show ((false || (backTo pos (starEach es X.env)).any (·.1)) || false) = false; rw [hpl]; rfl) (PySem.Calls.evalArgs_plain ?_)
  have := ha.run pos pins s1 σ _ _ I1 ht
  rw [he] at this
  refine thn this fun us s2 ⟨vs, H2, I2, r, hi, q⟩ => ?_
  obtain ⟨dx, fs, hi⟩ := hi
  refine ⟨ins_k I2 hi, ?_⟩
  obtain ⟨ox, od, X1, J, hd⟩ := ins_k I2 hi
  have r2 : Vals (V.ref a :: vs) (Value.ref a :: us) := .cons rfl r
  have hl : (Value.ref a :: us ++ []).length = ps.length := by rw [List.append_nil, ← r2.length]; exact F.len _ _ _ _ q
  refine wpAny_call (PySem.W.kco_code X1 J hd hm.at_ hm.isF hm.fn ?_)
  refine codeAny_mono (F.run X.A X.stack s2 H2 ⟨Value.ref a :: us, []⟩ (Value.ref a :: us) (V.ref a :: vs) Q (E σ) hr I2.env0 (by have := hb s2 (Value.ref a :: us) I2.kIn hl; rw [List.append_nil] at this; exact this) r2 q) fun r s' hq => ?_
  cases r with
  | error e => exact hx σ pins H2 s2 e s' I2 hq
  | ok fl =>
    cases fl with
    | ret u => exact I2.after hq
    | next => exact False.elim hq
    | brk => exact False.elim hq
    | cont => exact False.elim hq
theorem pe_callOk {E : XK} (F : FnOk X.prog X.w X.K X.mg X.base CX k f fd ps sp) (hm : CallM X.K C f) (hr : Room k X.A) (hb : KBn X.K fd ps 1 ks g gV) (hx : Passes CX X E) (hN : X.N[i]? = some x) (hv : Vis X.env.scope x) (hkw : PK X kws tk)
    (hdb : (x == ("__debug__" : Str)) = false := by decide) (hcd : (x == ("__classdict__" : Str)) = false := by decide)
    (hall : (backToKw pos (keywordEach kws X.env)).all (·.1.isSome) = true := by rfl) (hks : (backToKw pos (keywordEach kws X.env)).filterMap (·.1) = ks := by rfl)
    (hpl : ((backTo pos (starEach [] X.env)).any (·.1) || (backToKw pos (keywordEach kws X.env)).any (·.1.isNone)) = false := by rfl) : PE X (.Call (.Name x p) [] kws pos) (tCallOk i C ks.length sp gV E tk) := by
  refine ⟨fun pins s σ H Q I h => ?_⟩
  obtain ⟨a, hs, ht⟩ := h
  refine wpAny_Call_Name_kw (thn ((pe_var (pos := p) hN hv hdb hcd).run pins s σ H (fun v H1 => v = .ref a ∧ H1 = H) I ⟨.ref a, hs, rfl, rfl⟩) fun u s1 ⟨v, H1, I1, r1, q1⟩ => ?_)
  obtain ⟨rfl, rfl⟩ := q1
  cases r1
  refine callWith_ins (K := X.K) (C := C) hpl (evalArgs_kw2_nil hall ?_)
  refine thn (hkw.run pos pins s1 σ _ _ I1 ht) fun ws s2 ⟨zs, H2, I2, rz, hi, l2, q⟩ => ?_
  obtain ⟨dx, fs, hi⟩ := hi
  rw [hks]
  refine ⟨ins_k I2 hi, ?_⟩
  obtain ⟨ox, od, X1, J, hd⟩ := ins_k I2 hi
  have r2 := hb.rel (vs := [V.ref a]) (us := [Value.ref a]) (.cons rfl .nil) rz
  show wpAny _ _ (call (.ref a) [] (ks.zip ws)) _ _ _
  refine wpAny_call (PySem.W.kco_code X1 J hd hm.at_ hm.isF hm.fn ?_)
  refine codeAny_mono (F.run X.A X.stack s2 H2 ⟨[.ref a], ks.zip ws⟩ (g [.ref a] ws) (gV [.ref a] zs) Q E hr I2.env0 (hb.to s2 [.ref a] ws I2.kIn rfl (rz.length.symm.trans l2)) r2 q) fun r s' hq => ?_
  cases r with
  | error e => exact hx pins σ H2 s2 e s' I2 hq
  | ok fl =>
    cases fl with
    | ret u => exact I2.after hq
    | next => exact False.elim hq
    | brk => exact False.elim hq
    | cont => exact False.elim hq
end
end Lm

namespace Lm
open PySem L2 LamX PySem.Spec PyProof.Rows
/-! ### a lambda handed to a def that handles its errors: what is wished of an error may speak of the def's own slots -/
section
variable {X : Cx} {pins : List (Addr × Obj)} {σ : L2.St} {H : Hp} {s : Shared}
theorem pe_actS {CXg : CXT} {Eg : XK} {Ng : List Str} {qg : Str} {sg : Scope} {g f c' : Addr} {cdg pm ctv : Value} {params : Arguments} {body : Expr} {scope : Scope} {k i : Nat} {a : Str} {pn : List (Addr × Obj)} {xe : Value → Shared → Prop} {W : WX} {tb : XK → TE} {p1 p2 : Pos}
    (I : Inv X pins σ H s) (L : LamS X.env.scope scope) (hf : s.heap.get? f = some (PySem.W.kla_obj "<lambda>" (X.env.qual ++ "<lambda>") params body scope (cloFrom X.env.cells scope.names []) pm c' ctv)) (hfn : H f = none) (hfr : f ∉ frs X.stack)
    (hbind : bindArgs (PySem.W.kla_fn "<lambda>" (X.env.qual ++ "<lambda>") params body scope (cloFrom X.env.cells scope.names []) pm (.ref c') ctv) ⟨[], []⟩ = pure [])
    (tk : Takes ((cxOf CXg X.prog X.w X.K X.mg X.base Ng qg sg g cdg X.A X.stack s H Eg).tr pn xe) W) (hr : Room (k + 1) (X.A.deeper (envOfC qg sg s.heap.objs.size g cdg)))
    (hbody : ∀ (E : XK) (A : Around) (outer : List Env) (s : Shared) (H : Hp), Room k (A.deeper (lamEnv X scope s.heap.objs.size f c')) → PE (lamCx X A outer s H E scope f c') body (tb E))
    (hN : Ng[i]? = some a) (hv : Vis sg a) (hd : (a == ("__debug__" : Str)) = false := by decide) (hcd : (a == ("__classdict__" : Str)) = false := by decide) :
    PE ((cxOf CXg X.prog X.w X.K X.mg X.base Ng qg sg g cdg X.A X.stack s H Eg).tr pn xe) (.Call (.Name a p1) [] [] p2)
      (fun σZ HZ Q => σZ[i]? = some (some (.ref f)) ∧ HZ c' = some (CodeO c' (X.env.qual ++ "<lambda>")) ∧ tb (WE W σZ) σ HZ Q) := by
  refine ⟨fun pinsZ sZ σZ HZ Q IZ h => ?_⟩
  obtain ⟨hs, hc, ht⟩ := h
  refine wpAny_Call_Name_kw (thn ((pe_var (pos := p1) (i := i) hN hv hd hcd).run pinsZ sZ σZ HZ (fun v H1 => v = .ref f ∧ H1 = HZ) IZ ⟨.ref f, hs, rfl, rfl⟩) fun u s1 ⟨v, H1, I1, r1, q1⟩ => ?_)
  obtain ⟨ev, eH⟩ := q1
  subst ev
  rw [eH] at I1
  obtain rfl : u = Value.ref f := r1
  have of1 := I1.base.keep f _ hf hfn hfr (fun z => nomatch (show f ∈ ([] : List Addr) from z))
  refine PySem.W.callWith_F0 ⟨_, _, _, _, of1⟩ ?_
  have un : Un (frs X.stack) [] H HZ s.heap s1.heap := I1.base
  obtain ⟨⟨oc, vs, t, hoc, hdc, hvc⟩, _, _⟩ := I1.hok c' _ hc
  have rc : codeAny (model X.prog X.w) (X.A.deeper (envOfC qg sg s.heap.objs.size g cdg)) (.call (.ref f) ⟨[], []⟩) (CR (L2.CX X.prog X.w) (envOfC qg sg s.heap.objs.size g cdg :: X.stack) X.prog X.w HZ s1 Q (WE W σZ)) s1 := by
    refine PySem.W.kla_callFunE hr.depth of1 rfl L.co L.gen rfl ⟨c', oc, vs, t, rfl, hoc, hdc, hvc⟩ ?_
    rw [hbind]
    refine wpAny_pure (wpAny_newFunctionEnv (fun y hy => (L.own y hy).2) (fun y hy => absurd hy (by simp)) (fun h₁ hns hsb => ⟨I1.nolimit.fresh _ hsb, ?_⟩) L.kind)
    show codeAny _ _ (.expr body (lamEnv X scope s1.heap.objs.size f c')) _ _
    have kp : ∀ b o, s1.heap.get? b = some o → h₁.get? b = some o := fun b o e => hsb.extBut b o (Nat.ne_of_lt (Heap.lt_size e)) (Heap.get?_push_of_some _ e)
    have J : Inv (lamCx X (X.A.deeper (envOfC qg sg s.heap.objs.size g cdg)) (envOfC qg sg s.heap.objs.size g cdg :: X.stack) s1 HZ (WE W σZ) scope f c') [] σ HZ { s1 with heap := h₁, toks := s1.toks + ([] : List (Str × Value)).length } :=
      lam_start2 I L I1.env0 hr.hd un hns kp
    refine PySem.W.kla_codeExpr (wpAny_mono ((hbody _ _ _ s1 HZ (hr.deeper _)).run [] _ _ HZ Q J ht) (fun v s' hq => ?_) fun e s' hq => hq)
    obtain ⟨w', H', J', rv, q⟩ := hq
    exact ⟨w', H', J'.os, J'.bare, J'.base, J'.hok, rv, q⟩
  have hx : PassesAt (L2.CX X.prog X.w) ((cxOf CXg X.prog X.w X.K X.mg X.base Ng qg sg g cdg X.A X.stack s H Eg).tr pn xe) σZ (WE W σZ) := passAt tk σZ
  refine wpAny_call (codeAny_mono rc fun r s' hq => ?_)
  cases r with
  | error e => exact hx pinsZ HZ s1 e s' I1 hq
  | ok fl =>
    cases fl with
    | ret u => exact I1.after hq
    | next => exact False.elim hq
    | brk => exact False.elim hq
    | cont => exact False.elim hq
/-- the def that calls what it got, and handles its errors with its own slots at hand -/
def GivesToS (X : Cx) (Ng : List Str) (x : Str) (sg : Scope) (g : Addr) (cdg : Value) (bg : List Stmt) (a : Str) (q : Str) (k : Nat) (TT : (XK → Hp → VK → Prop) → Hp → VK → Prop) : Prop :=
  ∀ (f c' : Addr) (s : Shared) (H : Hp) (Q : VK) (tl : XK → Hp → VK → Prop), Room (k + 1) (X.A.deeper (envOfC x sg s.heap.objs.size g cdg)) →
    (∀ (W : WX) (pn : List (Addr × Obj)) (xe : Value → Shared → Prop) (p1 p2 : Pos), Takes ((cxOf C8.CX0 X.prog X.w X.K X.mg X.base Ng x sg g cdg X.A X.stack s H C8.E0).tr pn xe) W →
      PE ((cxOf C8.CX0 X.prog X.w X.K X.mg X.base Ng x sg g cdg X.A X.stack s H C8.E0).tr pn xe) (.Call (.Name a p1) [] [] p2) (fun σZ HZ Q => σZ[0]? = some (some (.ref f)) ∧ HZ c' = some (CodeO c' q) ∧ tl (WE W σZ) HZ Q)) →
    H c' = some (CodeO c' q) → TT tl H Q →
    ∃ t, PSs (cxOf C8.CX0 X.prog X.w X.K X.mg X.base Ng x sg g cdg X.A X.stack s H C8.E0).nox bg t ∧ t { nx := fun _ H' => Q .non H', rt := Q } (L2.start Ng [.ref f]) H
theorem pe_lamcallS {T : List (Addr × Str)} {TT : (XK → Hp → VK → Prop) → Hp → VK → Prop} {x a : Str} {g c P : Addr} {k : Nat} {pg : Arguments} {bg : List Stmt} {sg : Scope} {dV kV doc pm cdv ct oc : Value} {an od : Option Addr} {osl : Array (Option Value)} {Ng : List Str}
    {params : Arguments} {body : Expr} {scope : Scope} {t : XK → TE} {p lpos pos : Pos} (hg : Gl X x) (hm : X.mg x = some (.ref g)) (hk : PySem.W.keepIn X.K (.ref g) = true)
    (lk : X.K.lookup g = some ⟨oc, od, .func (PySem.W.fnOf x x pg bg sg dV kV doc pm an cdv ct), osl⟩) (hcg : PySem.W.codeIn X.K cdv x = true) (hb : L2.Binds X.K (PySem.W.fnOf x x pg bg sg dV kV doc pm an cdv ct) [a] []) (Sg : FnScope Ng [a] sg) (hNg : Ng[0]? = some a) (hva : Vis sg a)
    (hG : GivesToS X Ng x sg g cdv bg a (X.env.qual ++ "<lambda>") k TT)
    (TB : TabB X.base X.mg c P) (hcode : X.env.code = .ref c) (hmT : (P, X.env.qual ++ "<lambda>") ∈ T) (hu : ∀ p ∈ T, p.1 = P → p.2 = X.env.qual ++ "<lambda>") (hr : Room (k + 2) X.A) (L : LamS X.env.scope scope) (hdef : defaultsOf params X.env = ([], []))
    (hbind : ∀ (q : Str) (cl : List (Str × Addr)) (pm cv ctv : Value), bindArgs (PySem.W.kla_fn "<lambda>" q params body scope cl pm cv ctv) ⟨[], []⟩ = pure [])
    (hbody : ∀ (A : Around) (outer : List Env) (s : Shared) (H : Hp) (E : XK) (f c' : Addr), Room k (A.deeper (lamEnv X scope s.heap.objs.size f c')) → PE (lamCx X A outer s H E scope f c') body (t E))
    (hdb : (x == ("__debug__" : Str)) = false := by decide) (hd : (a == ("__debug__" : Str)) = false := by decide) (hcd : (a == ("__classdict__" : Str)) = false := by decide) :
    PE X (.Call (.Name x p) [.Lambda params body scope lpos] [] pos) (tLam T TT t) := by
  refine ⟨fun pins s σ H Q I h => ?_⟩
  obtain ⟨hT, h⟩ := h
  refine wpAny_Call_Name_kw (ld_glob I hg hm ?_ hdb)
  refine PySem.W.callWith_K (h₀ := X.base) I.ok.mod.kin hk ?_ (by rfl) (by rfl)
  show wpAny _ _ (spliced ((false, eval (.Lambda params body scope lpos) X.env) :: backTo pos (starEach [] X.env))) _ _ s
  refine Calls.spliced_cons (lam_make2 I TB hcode hmT hu hT hdef (L.has I.ok) fun f c' pm' ctv H1 s' I1 eN T1 hf hfn hfr hco => ?_)
  refine Calls.spliced_nil ⟨I1.kIn, ?_⟩
  have rc : codeAny (model X.prog X.w) X.A (.call (.ref g) ⟨[.ref f], []⟩) (CR C8.CX0 X.stack X.prog X.w H1 s' Q C8.E0) s' := by
    refine run_ofS (N := Ng) (ps := [a]) (us := [.ref f]) (vs := [.ref f]) lk hcg Sg hr I1.env0 (hb s' [.ref f] I1.kIn rfl) (.cons rfl .nil) rfl fun hr' => ?_
    obtain ⟨t', ht', hq'⟩ := hG f c' s' H1 Q (fun E H' Q' => t E σ H' Q') hr' (fun W pn xe p1 p2 tk => pe_actS (i := 0) I1 L hf hfn hfr (hbind _ _ _ _ _) tk hr' (fun E A outer s H hr2 => hbody A outer s H E f c' hr2) hNg hva hd hcd) hco (h H1 eN T1)
    exact ⟨t', ht'.nox, hq'⟩
  refine wpAny_call (codeAny_mono rc fun r s2 hq => ?_)
  cases r with
  | error e => exact (show False from hq).elim
  | ok fl =>
    cases fl with
    | ret u => exact I1.after hq
    | next => exact False.elim hq
    | brk => exact False.elim hq
    | cont => exact False.elim hq
end
end Lm

namespace Lm
open PySem L2 LamX PySem.Spec PyProof.Rows
section
variable {X : Cx} {A : Around} {outer : List Env} {s : Shared} {H : Hp} {E : XK} {scope : Scope} {f c' : Addr} {k : Nat} {C g : Addr} {fd : FuncData} {ps : List Str} {sp : Sp} {m : Str}
/-- in a lambda's body: what a call raises is the lambda's -/
theorem lam_passes : Passes (L2.CX X.prog X.w) (lamCx X A outer s H E scope f c') E := passes_call (takes_of rfl rfl rfl rfl) fun _ _ _ _ h => h
theorem MetOkX.binL {op : Operator} (D : MetOkX X.prog X.w X.K X.mg X.base k C (PySem.dunder op.info.2) g fd ps sp) (hc : PySem.W.selfFirst X.K C = true) (hr : Room k (lamCx X A outer s H E scope f c').A) : OpR (lamCx X A outer s H E scope f c') (binaryOp op) (rBinOwn C sp E) :=
  op_binOwn (X := lamCx X A outer s H E scope f c') D.ok hc D.mt.at_ D.mt.fn D.bd hr lam_passes
theorem MetOkX.leL (D : MetOkX X.prog X.w X.K X.mg X.base k C "__le__" g fd ps sp) (hr : Room k (lamCx X A outer s H E scope f c').A) : OpR (lamCx X A outer s H E scope f c') (compareOp .LtE) (rBinOwn C sp E) :=
  op_cmpOwn (X := lamCx X A outer s H E scope f c') (fun _ _ => rfl) D.ok D.mt.at_ D.mt.fn D.bd hr lam_passes
theorem MetOkX.ltL (D : MetOkX X.prog X.w X.K X.mg X.base k C "__lt__" g fd ps sp) (hr : Room k (lamCx X A outer s H E scope f c').A) : OpR (lamCx X A outer s H E scope f c') (compareOp .Lt) (rBinOwn C sp E) :=
  op_cmpOwn (X := lamCx X A outer s H E scope f c') (fun _ _ => rfl) D.ok D.mt.at_ D.mt.fn D.bd hr lam_passes
end
/-- a def whose code object is known: what it makes (lambdas) is noted in that object's table -/
theorem okC {P : Program} {w : World} {K : PySem.W.Frag} {mg : Str → Option Value} {base : Heap} {x qual : Str} {st : Stmt} {f c : Addr} {fd : FuncData} {N ps : List Str} {k : Nat} {sp : Sp} (F : L2.Fun K x qual st f fd) (hc : fd.code = Value.ref c) (S : FnScope N ps (defScope st)) (len : ∀ vs H Q E, sp vs H Q E → vs.length = ps.length)
    (hbody : ∀ (A : Around) (outer : List Env) (s : Shared) (H : Hp) (vs : List V) (Q : VK) (E : XK), Room k (A.deeper (envOfC qual (defScope st) s.heap.objs.size f (.ref c))) → sp vs H Q E →
      ∃ t, PSs (cxOf CX0 P w K mg base N qual (defScope st) f (.ref c) A outer s H E).nox (defBody st) t ∧ t { nx := fun _ H' => Q .non H', rt := Q } (L2.start N vs) H) : FnOk P w K mg base CX0 (k + 1) f fd ps sp := by
  obtain ⟨oc, od, kV, doc, pm, an, cdv, ct, osl, rfl, lk, hcd⟩ := F.ex
  have e : cdv = .ref c := hc
  subst e
  refine fn_of lk hcd S len fun A outer s H vs Q E hr hsp => ?_
  obtain ⟨t, h, q⟩ := hbody A outer s H vs Q E hr hsp
  exact ⟨t, h.nox, q⟩
end Lm

namespace Lm
open PySem L2 PySem.Spec PyProof.Rows
/-! ### several except clauses, each with a name or without -/
abbrev Clause := Value × Option Nat × (Addr → Value → Option Addr → TS)
/-- behind a clause its name is gone -/
def offEnds : Option Nat → Ends → Ends
  | none, D => D
  | some i, D => ⟨fun τ G => D.nx (τ.set i none) G, D.rt, fun τ G => D.bk (τ.set i none) G, fun τ G => D.ct (τ.set i none) G⟩
/-- in it the name holds the error -/
def onSt : Option Nat → Addr → L2.St → L2.St
  | none, _, τ => τ
  | some i, a, τ => τ.set i (some (.ref a))
def wClauses (K : PySem.W.Frag) (Wo : WX) (D : Ends) : List Clause → WX
  | [] => Wo
  | (c, o, ts) :: r => fun cls d τ G => ∃ b, PySem.W.exmOne K cls c = some b ∧ (b = true → ∀ a, G a = none → ts a cls d (offEnds o D) (onSt o a τ) G) ∧ (b = false → wClauses K Wo D r cls d τ G)
/-- a clause's name, its slot -/
def NmOk (X : Cx) : Option Str → Option Nat → Prop
  | none, none => True
  | some n, some i => X.N[i]? = some n ∧ X.env.kindOf n = some .local
  | _, _ => False
inductive Clauses (X : Cx) : List ExceptHandler → List Clause → Prop
  | nil : Clauses X [] []
  | cons {x : Str} {n : Option Str} {o : Option Nat} {c : Value} {ts : Addr → Value → Option Addr → TS} {st : Stmt} {sts : List Stmt} {p1 p2 : Pos} {hs : List ExceptHandler} {l : List Clause} (hx : Names X x c) (hn : NmOk X n o)
      (hb : ∀ (a : Addr) (ob : Obj) (cls : Value) (d : Option Addr) (pn : List (Addr × Obj)), Zc cls d ob → (∃ vs, ob.data = .fields vs) → PSs (X.suite a ((a, ob) :: pn)) (st :: sts) (ts a cls d)) (r : Clauses X hs l) :
      Clauses X (.ExceptHandler (some (.Name x p1)) n (st :: sts) p2 :: hs) ((c, o, ts) :: l)
section
variable {X : Cx} {blk : List Stmt} {h1 : ExceptHandler} {hr : List ExceptHandler} {cl : List Clause} {p : Pos} {tb : WX → TS} {Wo : WX}
theorem ps_clauses (e1 : X.stack = X.env :: X.outer) (e2 : X.env.frame = some X.env.locals) (nd : X.N.Nodup) (tk : Takes X Wo)
    (hbl : ∀ (W : WX) (pn : List (Addr × Obj)) (xe : Value → Shared → Prop), Takes (X.tr pn xe) W → PassesOwn (model X.prog X.w) X.A X.env xe → PSs (X.tr pn xe) blk (tb W)) (hcl : Clauses X (h1 :: hr) cl) :
    PS X (.Try blk (h1 :: hr) [] [] p) (fun D τ G => tb (wClauses X.K Wo D cl) D τ G) := by
  refine ⟨fun pins s τ G D J wish => ?_⟩
  have wf := J.ok
  have efr : X.A.frames = some (X.env :: X.outer) := wf.frames.trans (congrArg some e1)
  have go := (hbl (wClauses X.K Wo D cl) (X.pn ++ pins) (fun e z => wpAny (model X.prog X.w) X.A (noteFrame e X.env) (fun _ z2 => wpAny (model X.prog X.w) X.A (setFlight e none) (fun _ z3 =>
    wpAny (model X.prog X.w) X.A (handleBy e X.env (h1 :: hr)) (SP X pins D) X.xe z3) X.xe z2) X.xe z) ?caught PassesOwn.looking).run [] s τ G D (J.toTry _) wish
  case caught =>
    intro u z ht
    obtain ⟨er, fr, z0, pz, τ1, G1, cls, d, rfl, Jt, notBare, upw, hsky, fresh, eos, eag, wsh⟩ := ht
    have Ji := Jt.ofTry wf
    show wpAny (model X.prog X.w) X.A (noteFrame (.ref er) X.env) _ _ _
    refine Sky.land Zc.steady efr e2 (e1 ▸ hsky) fun g3 land3 up3 => ?_
    have J3 : Inv X pins τ1 G1 { z with heap := g3 } := Ji.landed notBare land3.1 (upw.trans up3) eos eag
    obtain ⟨ob3, fs3, get3, zc3, dat3⟩ := land3.there
    have off : er ∉ frs (X.env :: X.outer) := fun hm => by
      obtain ⟨_, ob', get', nofs⟩ := land3.2.2.1.mem hm
      rw [get3] at get'
      cases get'
      exact nofs _ dat3
    have offL : er ≠ X.env.locals := fun eq => off (List.mem_filterMap.mpr ⟨X.env, List.mem_cons_self, eq ▸ e2⟩)
    have offF : er ∉ X.fs := fun hm => by
      obtain ⟨en, hen, q⟩ := List.mem_filterMap.mp hm
      exact off (List.mem_filterMap.mpr ⟨en, List.mem_cons_of_mem _ hen, q⟩)
    have Sx := J3.suite get3 dat3 fresh offL offF
    have each : ∀ {hs : List ExceptHandler} {l : List Clause}, Clauses X hs l → wClauses X.K Wo D l cls d τ1 G1 → wpAny (model X.prog X.w) X.A (handleBy (.ref er) X.env hs) (SP X pins D) X.xe { z with heap := g3 } := by
      intro hs l hl
      induction hl with
      | nil =>
        intro out
        refine wpAny_handleBy_nil ?_
        obtain ⟨_, _, _, obx, vsx, Tx, _, _, getx, _, datx, slot, _⟩ := id land3
        unfold PySem.passOn
        refine wpAny_bind (wpAny_field getx datx slot ?_)
        rw [if_neg (show ¬ ((Value.ref Tx == Value.none) = true) by simp)]
        have leave : wpAny (model X.prog X.w) X.A (setFlight (.ref er) X.env.frame) (fun _ z4 => wpAny (model X.prog X.w) X.A (throw (.ref er) : Sem Flow) (SP X pins D) X.xe z4) X.xe { z with heap := g3 } := by
          rw [e2]
          exact HandSPX.setFlight_upZ land3 fun g4 hot4 up4 => wpAny_throw (tk _ _ ⟨er, fr, z0, pins, τ1, G1, cls, d, rfl, Ji, notBare, (upw.trans up3).trans up4, Or.inr (Or.inr (by rw [e1]; exact hot4)), fresh, eos, eag, out⟩)
        first
          | exact wpAny_bind leave
          | exact wpAny_bind (wpAny_pure (wpAny_bind leave))
      | @cons x n o c ts st sts q1 q2 hs2 l2 hx hn hbd rest ih =>
        intro out
        obtain ⟨b, fits, yes, no⟩ := out
        refine wpAny_handleBy_cons (codeAny_handlers_test ?_) (fun q => by cases q)
        have look : PySem.W.Looks (model X.prog X.w) g3 (typeOf (.ref er)) cls := fun A Q E s k q => wpAny_typeOf_ref (k _ _ get3) (zc3.1.symm ▸ q)
        have match_ := PySem.W.exm_one (M := model X.prog X.w) J3.kIn look fits
        have named : ∀ {Q E : Value → Shared → Prop}, Q c { z with heap := g3 } → wpAny (model X.prog X.w) (X.A.mark (some (.ref er))) (eval (.Name x q1) X.env) Q E { z with heap := g3 } := fun {Q E} q => by
          obtain ⟨k1, k2, m1 | ⟨m1, m2, m3⟩⟩ := hx
          · exact ld_glob (X := X.suite er ((er, ob3) :: (X.pn ++ pins))) Sx k1 m1 q k2
          · exact ld_blt (X := X.suite er ((er, ob3) :: (X.pn ++ pins))) Sx k1 m1 m2 q m3 k2
        refine named (match_.here ?_)
        cases b with
        | false =>
          show wpAny _ X.A (handleBy (.ref er) X.env hs2) _ _ _
          exact ih (no rfl)
        | true =>
          match n, o, hn, yes rfl er fresh with
          | none, none, _, w1 =>
            refine codeAny_handlers_suite (HandSPX.lands_againZ land3 fun g4 land4 up4 => ?_)
            have J4 : Inv X pins τ1 G1 { z with heap := g4 } := Ji.landed notBare land4.1 ((upw.trans up3).trans up4) eos eag
            obtain ⟨ob4, fs4, get4, zc4, dat4⟩ := land4.there
            have S4 := J4.suite get4 dat4 fresh offL offF
            refine wpAny_mono ((hbd er ob4 cls d (X.pn ++ pins) zc4 ⟨_, dat4⟩).run [] _ _ G1 _ S4 w1) (fun f z6 fin => ?_) (fun _ _ bad => bad.elim)
            match f, fin with
            | .next, ⟨_, _, S6, q⟩ => exact ⟨_, _, S6.unsuite wf, q⟩
            | .brk, ⟨_, _, S6, q⟩ => exact ⟨_, _, S6.unsuite wf, q⟩
            | .cont, ⟨_, _, S6, q⟩ => exact ⟨_, _, S6.unsuite wf, q⟩
            | .ret u, ⟨_, _, _, S6, r6, q⟩ => exact ⟨_, _, _, S6.unsuite wf, r6, q⟩
          | some nm, some i, ⟨ni, nl⟩, w1 =>
            refine codeAny_handlers_suite_as (HandSPX.lands_againZ land3 fun g4 land4 up4 => ?_)
            have J4 : Inv X pins τ1 G1 { z with heap := g4 } := Ji.landed notBare land4.1 ((upw.trans up3).trans up4) eos eag
            obtain ⟨ob4, fs4, get4, zc4, dat4⟩ := land4.there
            have S4 := J4.suite get4 dat4 fresh offL offF
            refine store_ok (X := X.suite er ((er, ob4) :: (X.pn ++ pins))) (v := .ref er) S4 nd ni (.inl nl) rfl (fun z5 S5 => ?_) (.inr nl)
            refine wpAny_mono ((hbd er ob4 cls d (X.pn ++ pins) zc4 ⟨_, dat4⟩).run [] z5 _ G1 _ S5 w1) (fun f z6 fin => ?_) (fun _ _ bad => bad.elim)
            have drop : ∀ {τ6 : L2.St} {G6 : Hp} {Q : Shared → Prop}, Inv (X.suite er ((er, ob4) :: (X.pn ++ pins))) [] τ6 G6 z6 → (∀ z7, Inv X pins (τ6.set i none) G6 z7 → Q z7) →
                wpAny (model X.prog X.w) X.A (do bindName X.env nm .none; unbindBehindTheSuite X.env nm q2) (fun _ z7 => Q z7) X.xe z6 := fun S6 hq => gone_ok (S6.unsuite wf) nd ni nl hq
            match f, fin with
            | .next, ⟨_, _, S6, q⟩ => exact drop S6 fun _ J7 => ⟨_, _, J7, q⟩
            | .brk, ⟨_, _, S6, q⟩ => exact drop S6 fun _ J7 => ⟨_, _, J7, q⟩
            | .cont, ⟨_, _, S6, q⟩ => exact drop S6 fun _ J7 => ⟨_, _, J7, q⟩
            | .ret u, ⟨_, _, _, S6, r6, q⟩ => exact drop S6 fun _ J7 => ⟨_, _, _, J7, r6, q⟩
    exact each hcl wsh
  refine wpAny_Try_except (wpAny_mono go (fun f z fin => ?_) fun _ _ q => q)
  match f, fin with
  | .next, ⟨_, _, J1, q⟩ => exact wpAny_execs_nil ⟨_, _, J1.ofTry wf, q⟩
  | .brk, ⟨_, _, J1, q⟩ => exact ⟨_, _, J1.ofTry wf, q⟩
  | .cont, ⟨_, _, J1, q⟩ => exact ⟨_, _, J1.ofTry wf, q⟩
  | .ret u, ⟨_, _, _, J1, r1, q⟩ => exact ⟨_, _, _, J1.ofTry wf, r1, q⟩
end
end Lm

namespace Lm
open PySem L2 LamX PySem.Spec PyProof.Rows
theorem exm_at {K : PySem.W.Frag} {S C : Addr} {b : Bool} (h1 : PySem.W.subIn K (.ref C) (.type "BaseException") = some true) (h2 : PySem.W.isClsIn K C = true) (h3 : PySem.W.typeIn K (.ref C) = some (.type "type")) (h4 : PySem.W.subIn K (.ref S) (.ref C) = some b) :
    PySem.W.exmOne K (.ref S) (.ref C) = some b := by
  have e1 : (PySem.W.subIn K (.ref C) (.type "BaseException") == some true) = true := by rw [h1] <;> rfl
  have e2 : ((PySem.W.clsIn K C).isSome && PySem.W.typeIn K (.ref C) == some (.type "type")) = true := by
    have h2' : (PySem.W.clsIn K C).isSome = true := h2
    rw [h2', h3] <;> rfl
  show (if (PySem.W.subIn K (.ref C) (.type "BaseException") == some true) = true then (if ((PySem.W.clsIn K C).isSome && PySem.W.typeIn K (.ref C) == some (.type "type")) = true then PySem.W.subIn K (.ref S) (.ref C) else none) else none) = some b
  rw [if_pos e1, if_pos e2]
  exact h4
/-- an error with one field, as it is raised -/
def ErrAt (C : Addr) (fn : Str) (cls : Value) (d : Option Addr) (H : Hp) (v : V) : Prop := cls = .ref C ∧ ∃ dd fs, d = some dd ∧ H dd = some (.xd fs) ∧ fs.lookup fn = some v
/-- what is made of an error by a clause with a field, and by one without -/
def ClF (C : Addr) (fn tag : Str) (Q : VK) : XK := fun cls d H => ∃ v, ErrAt C fn cls d H v ∧ ∀ p, H p = none → Q (.ref p) (upd H p (.tup [.str tag, v]))
def ClO (C : Addr) (tag : Str) (Q : VK) : XK := fun cls d H => cls = .ref C ∧ ∀ p, H p = none → Q (.ref p) (upd H p (.tup [.str tag]))
def Cl2 (A B : VK → XK) : VK → XK := fun Q cls d H => A Q cls d H ∨ B Q cls d H
/-- found = ("odd",); try: found = (tag, ask()) / except .. -/
def TTtr (Cl : VK → XK) (post : V → Hp → VK → Prop) : (XK → Hp → VK → Prop) → Hp → VK → Prop := fun tl H Q => ∀ p0, H p0 = none → ∀ (E : XK) (R : VK), (∀ cls d H', Cl Q cls d H' → E cls d H') → (∀ v H', post v H' Q → R v H') → tl E (upd H p0 (.tup [.str "odd"])) R
/-- (tag, v) is told -/
def pTold (tag : Str) : V → Hp → VK → Prop := fun v H Q => ∀ p, H p = none → Q (.ref p) (upd H p (.tup [.str tag, v]))
section
variable {X : Cx} {k : Nat} {f C : Addr} {fd : FuncData} {ps : List Str} {sp : Sp} {E : XK} {x m : Str} {p pos apos : Pos} {e o : Expr} {es : List Expr} {ta : TE} {t : TA}
theorem pe_mXc {pl : Sem Bool} (D : MetOkX X.prog X.w X.K X.mg X.base k C m f fd ps sp) (hr : Room k X.A) (hx : Passes (L2.CX X.prog X.w) X E) (he : PE X o ta) (ha : PA X (e :: es) t)
    (hst : starEach (e :: es) X.env = (false, eval e X.env) :: starEach es X.env := by rfl) (hpl : (backTo pos (starEach es X.env)).any (·.1) = false := by rfl)
    (ht : eval (.Call (.Attribute o m apos) (e :: es) [] pos) X.env = (do
      let ov ← eval o X.env
      standAt apos.atName
      let (f, first) ← holding [ov] (getMethod ov m pl)
      callWith pos f first (backTo pos (starEach (e :: es) X.env)) (backToKw pos (keywordEach [] X.env))) := by rfl) :
    PE X (.Call (.Attribute o m apos) (e :: es) [] pos) (tMeth C m sp [] E ta t) := pe_meth (pl := pl) he D.cl D.mt D.ok hr D.bd .nil hx ha hst hpl ht
end
section
variable {X : Cx} {A : Around} {outer : List Env} {s : Shared} {H : Hp} {E : XK} {scope : Scope} {f c' : Addr} {k : Nat} {C g : Addr} {fd : FuncData} {ps : List Str} {sp : Sp} {m x : Str} {p pos apos : Pos} {e o : Expr} {es : List Expr} {ta : TE} {t : TA}
theorem pe_mL {pl : Sem Bool} (D : MetOkX X.prog X.w X.K X.mg X.base k C m g fd ps sp) (hr : Room k (lamCx X A outer s H E scope f c').A) (he : PE (lamCx X A outer s H E scope f c') o ta) (ha : PA (lamCx X A outer s H E scope f c') (e :: es) t)
    (hst : starEach (e :: es) (lamCx X A outer s H E scope f c').env = (false, eval e (lamCx X A outer s H E scope f c').env) :: starEach es (lamCx X A outer s H E scope f c').env := by rfl) (hpl : (backTo pos (starEach es (lamCx X A outer s H E scope f c').env)).any (·.1) = false := by rfl)
    (ht : eval (.Call (.Attribute o m apos) (e :: es) [] pos) (lamCx X A outer s H E scope f c').env = (do
      let ov ← eval o (lamCx X A outer s H E scope f c').env
      standAt apos.atName
      let (f1, first) ← holding [ov] (getMethod ov m pl)
      callWith pos f1 first (backTo pos (starEach (e :: es) (lamCx X A outer s H E scope f c').env)) (backToKw pos (keywordEach [] (lamCx X A outer s H E scope f c').env))) := by rfl) :
    PE (lamCx X A outer s H E scope f c') (.Call (.Attribute o m apos) (e :: es) [] pos) (tMeth C m sp [] E ta t) :=
  pe_meth (X := lamCx X A outer s H E scope f c') (pl := pl) (CX := L2.CX X.prog X.w) (E := E) he D.cl D.mt D.ok hr D.bd .nil (lam_passes (X := X) (A := A) (outer := outer) (s := s) (H := H) (E := E) (scope := scope) (f := f) (c' := c')) ha hst hpl ht
theorem pe_dL (D : DefOkX X.prog X.w X.K X.mg X.base k x g fd ps sp) (hr : Room k (lamCx X A outer s H E scope f c').A) (ha : PA (lamCx X A outer s H E scope f c') (e :: es) t) (hg : Gl (lamCx X A outer s H E scope f c') x) (hdb : (x == ("__debug__" : Str)) = false := by decide)
    (he : starEach (e :: es) (lamCx X A outer s H E scope f c').env = (false, eval e (lamCx X A outer s H E scope f c').env) :: starEach es (lamCx X A outer s H E scope f c').env := by rfl) (hpl : (backTo pos (starEach es (lamCx X A outer s H E scope f c').env)).any (·.1) = false := by rfl) :
    PE (lamCx X A outer s H E scope f c') (.Call (.Name x p) (e :: es) [] pos) (tCall sp [] E t) :=
  pe_call (X := lamCx X A outer s H E scope f c') (CX := L2.CX X.prog X.w) (E := E) D.ok hr hg D.mg D.kp D.bd .nil (lam_passes (X := X) (A := A) (outer := outer) (s := s) (H := H) (E := E) (scope := scope) (f := f) (c' := c')) ha hdb he hpl
end
/-- what is asked raises the first clause's error -/
theorem go_trA {Cl : VK → XK} {post : V → Hp → VK → Prop} {Tl : List (Addr × Str)} {C : Addr} {fn tag : Str} {x : V} {σ : L2.St} {H : Hp} {Q : VK} {t : XK → TE} (T : Tabs Tl H) (hC : ∀ Q cls d H, ClF C fn tag Q cls d H → Cl Q cls d H)
    (h : ∀ H1, ExtN H H1 → ∀ (E : XK) (R : VK), (∀ H' d, (∀ b o, H1 b = some o → H' b = some o) → H' d = none → E (.ref C) (some d) (upd H' d (.xd [(fn, x)]))) → t E σ H1 R)
    (k : ∀ p H1, ExtN H H1 → Tabs Tl H1 → (∀ o, H p = some o → ∃ ps, o = .tbl ps) → H1 p = some (.tup [.str tag, x]) → Q (.ref p) H1) : tLam Tl (TTtr Cl post) t σ H Q := by
  refine ⟨T, fun H1 e1 T1 p0 np0 E R hE _ => ?_⟩
  have s0 : ∀ b o, H1 b = some o → upd H1 p0 (.tup [.str "odd"]) b = some o := fun b o e => by rw [upd_ne (ne_of_none e np0)]; exact e
  refine h _ (e1.trans (.of s0)) E R fun H' d s nd => hE _ _ _ (hC _ _ _ _ ⟨x, ⟨rfl, d, _, rfl, upd_same, by simp [List.lookup]⟩, fun p np => ?_⟩)
  have s1 : ∀ b o, H1 b = some o → upd (upd H' d (.xd [(fn, x)])) p (.tup [.str tag, x]) b = some o := fun b o e => by
    have e2 := s _ _ (s0 b o e)
    have e3 : upd H' d (.xd [(fn, x)]) b = some o := by rw [upd_ne (ne_of_none e2 nd)]; exact e2
    rw [upd_ne (ne_of_none e3 np)]; exact e3
  refine k p _ (e1.trans (.of s1)) (T1.ext s1) (fun o ho => Classical.byContradiction fun hc => ?_) upd_same
  have h1 := e1 _ _ ho fun ps z => hc ⟨ps, z⟩
  have e2 := s _ _ (s0 _ _ h1)
  have e3 : upd H' d (.xd [(fn, x)]) p = some o := by rw [upd_ne (ne_of_none e2 nd)]; exact e2
  rw [np] at e3
  cases e3
theorem free_back' {H H1 H' : Hp} {p : Addr} (e1 : ExtN H H1) (s : ∀ b o, H1 b = some o → H' b = some o) (np : H' p = none) : ∀ o, H p = some o → ∃ ps, o = .tbl ps := fun o ho => Classical.byContradiction fun hc => by
  have h1 := s _ _ (e1 _ _ ho fun ps z => hc ⟨ps, z⟩)
  rw [np] at h1
  cases h1
/-- … an error without fields -/
theorem go_trO {Cl : VK → XK} {post : V → Hp → VK → Prop} {Tl : List (Addr × Str)} {C : Addr} {tag : Str} {σ : L2.St} {H : Hp} {Q : VK} {t : XK → TE} (T : Tabs Tl H) (hC : ∀ Q cls d H, ClO C tag Q cls d H → Cl Q cls d H)
    (h : ∀ H1, ExtN H H1 → ∀ (E : XK) (R : VK), (∀ H', (∀ b o, H1 b = some o → H' b = some o) → E (.ref C) none H') → t E σ H1 R)
    (k : ∀ p H1, ExtN H H1 → Tabs Tl H1 → (∀ o, H p = some o → ∃ ps, o = .tbl ps) → H1 p = some (.tup [.str tag]) → Q (.ref p) H1) : tLam Tl (TTtr Cl post) t σ H Q := by
  refine ⟨T, fun H1 e1 T1 p0 np0 E R hE _ => ?_⟩
  have s0 : ∀ b o, H1 b = some o → upd H1 p0 (.tup [.str "odd"]) b = some o := fun b o e => by rw [upd_ne (ne_of_none e np0)]; exact e
  refine h _ (e1.trans (.of s0)) E R fun H' s => hE _ _ _ (hC _ _ _ _ ⟨rfl, fun p np => ?_⟩)
  have s1 : ∀ b o, H1 b = some o → upd H' p (.tup [.str tag]) b = some o := fun b o e => by
    have e2 := s _ _ (s0 b o e)
    rw [upd_ne (ne_of_none e2 np)]; exact e2
  exact k p _ (e1.trans (.of s1)) (T1.ext s1) (free_back' e1 (fun b o e => s _ _ (s0 b o e)) np) upd_same
/-- … it tells something -/
theorem go_trV {Cl : VK → XK} {tag : Str} {Tl : List (Addr × Str)} {σ : L2.St} {H : Hp} {Q : VK} {t : XK → TE} (T : Tabs Tl H)
    (h : ∀ H1, ExtN H H1 → Tabs Tl H1 → ∀ (E : XK) (R : VK), (∀ v H', (∀ b o, H1 b = some o → H' b = some o) → (∀ p, H' p = none → Q (.ref p) (upd H' p (.tup [.str tag, v]))) → R v H') → t E σ H1 R) : tLam Tl (TTtr Cl (pTold tag)) t σ H Q := by
  refine ⟨T, fun H1 e1 T1 p0 np0 E R _ hR => ?_⟩
  have s0 : ∀ b o, H1 b = some o → upd H1 p0 (.tup [.str "odd"]) b = some o := fun b o e => by rw [upd_ne (ne_of_none e np0)]; exact e
  exact h _ (e1.trans (.of s0)) (T1.ext s0) E R fun v H' s q => hR v H' q
end Lm

namespace Lm
open PySem L2 LamX PySem.Spec PyProof.Rows
/-- a class whose __init__ may raise -/
structure ClsOkX (P : Program) (w : World) (K : PySem.W.Frag) (mg : Str → Option Value) (base : Heap) (k : Nat) (x : Str) (C f : Addr) (fd : FuncData) (ps : List Str) (sp : Sp) : Prop where
  ok : FnOk P w K mg base (L2.CX P w) k f fd ps sp
  bd : Binds K fd ps []
  mkr : Mk K C f
  cl : Cls K C
  mg : mg x = some (.ref C)
section
variable {X : Cx} {A : Around} {outer : List Env} {s : Shared} {H : Hp} {E : XK} {scope : Scope} {f c' : Addr} {k : Nat} {C g : Addr} {fd : FuncData} {ps : List Str} {sp : Sp} {x : Str} {p pos : Pos} {e : Expr} {es : List Expr} {t : TA}
theorem MetOkX.gtL (D : MetOkX X.prog X.w X.K X.mg X.base k C "__gt__" g fd ps sp) (hr : Room k (lamCx X A outer s H E scope f c').A) : OpR (lamCx X A outer s H E scope f c') (compareOp .Gt) (rBinOwn C sp E) :=
  op_cmpOwn (X := lamCx X A outer s H E scope f c') (fun _ _ => rfl) D.ok D.mt.at_ D.mt.fn D.bd hr (lam_passes (X := X) (A := A) (outer := outer) (s := s) (H := H) (E := E) (scope := scope) (f := f) (c' := c'))
theorem MetOkX.geL (D : MetOkX X.prog X.w X.K X.mg X.base k C "__ge__" g fd ps sp) (hr : Room k (lamCx X A outer s H E scope f c').A) : OpR (lamCx X A outer s H E scope f c') (compareOp .GtE) (rBinOwn C sp E) :=
  op_cmpOwn (X := lamCx X A outer s H E scope f c') (fun _ _ => rfl) D.ok D.mt.at_ D.mt.fn D.bd hr (lam_passes (X := X) (A := A) (outer := outer) (s := s) (H := H) (E := E) (scope := scope) (f := f) (c' := c'))
theorem pe_mkL (D : ClsOkX X.prog X.w X.K X.mg X.base k x C g fd ps sp) (hr : Room (k + 1) (lamCx X A outer s H E scope f c').A) (ha : PA (lamCx X A outer s H E scope f c') (e :: es) t) (hg : Gl (lamCx X A outer s H E scope f c') x := by rfl) (hdb : (x == ("__debug__" : Str)) = false := by decide)
    (he : starEach (e :: es) (lamCx X A outer s H E scope f c').env = (false, eval e (lamCx X A outer s H E scope f c').env) :: starEach es (lamCx X A outer s H E scope f c').env := by rfl) (hpl : (backTo pos (starEach es (lamCx X A outer s H E scope f c').env)).any (·.1) = false := by rfl) :
    PE (lamCx X A outer s H E scope f c') (.Call (.Name x p) (e :: es) [] pos) (tMake C sp [] E t) :=
  pe_make (X := lamCx X A outer s H E scope f c') (CX := L2.CX X.prog X.w) (E := E) D.mkr D.ok hr hg D.mg D.bd .nil (lam_passes (X := X) (A := A) (outer := outer) (s := s) (H := H) (E := E) (scope := scope) (f := f) (c' := c')) ha hdb he hpl
end
end Lm

/-! R17: for i, (x, y) in enumerate(zip(a, b)), two lists. -/
namespace Lm
open PySem PySem.Spec PyProof.Rows L2 RZ
open Sem (wp)
/-- a zip as it stands between two turns, its last tuple handed out or not -/
abbrev ZipG (h : Heap) (z TI TO : Addr) (f0 : Value) (f : Bool) : Prop :=
  h.get? z = some { cls := .type "zip", dict := none, data := .fields #[f0, .bool f, .bool false, .ref TI, .ref TO], slots := #[] }
def Own0 (f0 : Value) : Prop := f0 = .none ∨ ∃ T : Addr, f0 = rawInt T
def ZipA (h : Heap) (z TI TO : Addr) : Prop := ∃ f0 f, ZipG h z TI TO f0 f ∧ Own0 f0
section
variable {prog : Program} {w : World} {A : Around} {E : Value → Shared → Prop} {s : Shared}
theorem alive_any {a : Addr} {Q : Option Obj → Shared → Prop} (h : Q (s.heap.get? a) s) : wpAny (model prog w) A (loadIfAlive a) Q E s := fun _ _ _ => h
theorem owned_any {z TI TO : Addr} {f0 : Value} {f : Bool} {Q : Bool → Shared → Prop} (hz : ZipG s.heap z TI TO f0 f) (h0 : Own0 f0)
    (ht : Q true s) (hf : ∀ h', ZipG h' z TI TO f0 true → Heap.SameBut z s.heap h' → Q false { s with heap := h' }) : wpAny (model prog w) A (Builtin.SmallTypes.ownedTupleIsFree (.ref z)) Q E s := by
  unfold Builtin.SmallTypes.ownedTupleIsFree
  refine wpAny_bind (wpAny_field hz rfl (x := f0) rfl ?_)
  rcases h0 with rfl | ⟨T, rfl⟩
  · exact wpAny_pure ht
  · show wpAny _ _ (loadIfAlive ((T : Int).toNat) >>= _) _ _ _
    rw [Int.toNat_natCast]
    refine wpAny_bind (alive_any ?_)
    cases s.heap.get? T with
    | none =>
      simp only [Option.isNone_none, if_true]
      exact wpAny_pure ht
    | some o =>
      simp only [Option.isNone_some, Bool.false_eq_true, if_false]
      refine wpAny_bind (wpAny_field hz rfl (x := .bool f) rfl ?_)
      cases f with
      | true =>
        rw [if_neg (show ¬ ((Value.bool true != Value.bool true) = true) from Bool.false_ne_true)]
        exact wpAny_pure (hf s.heap hz (Heap.SameBut.refl _ _))
      | false =>
        rw [if_pos (show (Value.bool false != Value.bool true) = true from rfl)]
        exact wpAny_bind (wpAny_setField_rec hz (by simp) fun h₁ hz₁ hs₁ => wpAny_pure (hf h₁ hz₁ hs₁))
theorem zipG_item {z TI TO i1 i2 l1 l2 : Addr} {k1 k2 : Nat} {xs ys : Array Value} {x y : Value} {Q : Value → Shared → Prop} (D : ZipApart z TI TO i1 i2 l1 l2)
    (hz : ZipA s.heap z TI TO) (hTI : IsPair s.heap TI (.ref i1) (.ref i2)) (hTO : ∃ a b, IsPair s.heap TO a b)
    (h1 : s.heap.IsListIter i1 l1 k1) (h2 : s.heap.IsListIter i2 l2 k2) (hl1 : s.heap.IsList l1 xs) (hl2 : s.heap.IsList l2 ys) (hx : xs[k1]? = some x) (hy : ys[k2]? = some y)
    (hQ : ∀ h', ZipA h' z TI TO → (∃ a b, IsPair h' TO a b) → h'.IsListIter i1 l1 (k1 + 1) → h'.IsListIter i2 l2 (k2 + 1) → IsPair h' s.heap.objs.size x y → h'.objs.size = s.heap.objs.size + 1 →
      (∀ c o, c ≠ z → c ≠ TO → c ≠ i1 → c ≠ i2 → s.heap.get? c = some o → h'.get? c = some o) → Q (.ref s.heap.objs.size) { s with heap := h' }) :
    wpAny (model prog w) A (Builtin.«zip.__next__» ⟨[.ref z], []⟩) (fun fin s' => ∃ v, fin = .done (.ret v) ∧ Q v s') E s := by
  obtain ⟨f0, f, hz, h0⟩ := hz
  obtain ⟨a, b, hTO⟩ := hTO
  show wpAny _ _ (field (.ref z) 2 >>= _) _ _ _
  refine wpAny_bind (wpAny_field hz rfl (x := .bool false) rfl ?_)
  show wpAny _ _ (field (.ref z) 3 >>= _) _ _ _
  refine wpAny_bind (wpAny_field hz rfl (x := .ref TI) rfl ?_)
  refine wpAny_bind (wpAny_seqItems hTI rfl ?_)
  show wpAny _ _ (Builtin.SmallTypes.ownedTupleIsFree (.ref z) >>= _) _ _ _
  refine wpAny_bind (owned_any hz h0 ?_ fun h₁ hz₁ hs₁ => ?_)
  · simp only [if_true]
    refine wpAny_bind (wpAny_rule ?_)
    refine wpAny_bind (wpAny_field hz rfl (x := .ref TO) rfl ?_)
    refine wpAny_bind (wpAny_setField_rec hz (by simp) fun h₁ hz₁ hs₁ => ?_)
    replace hz₁ : ZipG h₁ z TI TO .ellipsis f := hz₁
    refine wpAny_bind ?_
    simp only [List.zipIdx_cons, List.zipIdx_nil, List.forIn_cons, List.forIn_nil]
    refine wpAny_bind (wpAny_bind (wpAny_onRaise ?_))
    show wpAny _ _ (Builtin.SmallTypes.nextOf (.ref i1) >>= _) _ _ _
    refine wpAny_bind (wpAny_nextOf_list_item (h1.extBut hs₁.extBut D.i1z) (hl1.extBut hs₁.extBut D.l1z) hx fun h₂ h1₂ hs₂ => wpAny_pure ?_)
    have hTO₂ : IsPair h₂ TO a b := hs₂.extBut _ _ D.TOi1 (hs₁.extBut _ _ D.TOz hTO)
    refine wpAny_bind (wpAny_seqItems hTO₂ rfl ?_)
    refine wpAny_bind (wpAny_updateSeq_pair hTO₂ fun h₃ hTO₃ hs₃ => ?_)
    replace hTO₃ : IsPair h₃ TO x b := hTO₃
    refine wpAny_bind (wpAny_letGo (wpAny_pure ?_))
    refine wpAny_bind (wpAny_bind (wpAny_onRaise ?_))
    show wpAny _ _ (Builtin.SmallTypes.nextOf (.ref i2) >>= _) _ _ _
    refine wpAny_bind (wpAny_nextOf_list_item (((h2.extBut hs₁.extBut D.i2z).extBut hs₂.extBut D.i12.symm).extBut hs₃.extBut D.TOi2.symm)
      (((hl2.extBut hs₁.extBut D.l2z).extBut hs₂.extBut D.l2i1).extBut hs₃.extBut D.l2TO) hy fun h₄ h2₄ hs₄ => wpAny_pure ?_)
    have hTO₄ : IsPair h₄ TO x b := hs₄.extBut _ _ D.TOi2 hTO₃
    refine wpAny_bind (wpAny_seqItems hTO₄ rfl ?_)
    refine wpAny_bind (wpAny_updateSeq_pair hTO₄ fun h₅ hTO₅ hs₅ => ?_)
    replace hTO₅ : IsPair h₅ TO x y := hTO₅
    refine wpAny_bind (wpAny_letGo (wpAny_pure (wpAny_pure ?_)))
    refine wpAny_bind (wpAny_seqItems hTO₅ rfl ?_)
    refine wpAny_bind (wpAny_newTuple ?_)
    have hsz : h₅.objs.size = s.heap.objs.size := by rw [hs₅.1, hs₄.1, hs₃.1, hs₂.1, hs₁.1]
    have hz₅ : ZipG h₅ z TI TO .ellipsis f := hs₅.extBut _ _ D.TOz.symm (hs₄.extBut _ _ D.i2z.symm (hs₃.extBut _ _ D.TOz.symm (hs₂.extBut _ _ D.i1z.symm hz₁)))
    have hk₅ : ∀ c o, c ≠ z → c ≠ TO → c ≠ i1 → c ≠ i2 → s.heap.get? c = some o → h₅.get? c = some o := fun c o c1 c2 c3 c4 e =>
      hs₅.extBut _ _ c2 (hs₄.extBut _ _ c4 (hs₃.extBut _ _ c2 (hs₂.extBut _ _ c3 (hs₁.extBut _ _ c1 e))))
    have h1₅ : h₅.IsListIter i1 l1 (k1 + 1) := ((h1₂.extBut hs₃.extBut D.TOi1.symm).extBut hs₄.extBut D.i12).extBut hs₅.extBut D.TOi1.symm
    have h2₅ : h₅.IsListIter i2 l2 (k2 + 1) := h2₄.extBut hs₅.extBut D.TOi2.symm
    have hzlt : z < h₅.objs.size := Heap.lt_size hz₅
    show wpAny _ _ (Builtin.SmallTypes.ownedTupleHandOut (.ref z) (.ref h₅.objs.size) >>= _) _ _ _
    refine wpAny_bind ?_
    unfold Builtin.SmallTypes.ownedTupleHandOut
    have hz₆ : ZipG (h₅.push { cls := .type "tuple", data := .seq #[x, y] }) z TI TO .ellipsis f := Heap.get?_push_of_some _ hz₅
    refine wpAny_bind (wpAny_setField_rec hz₆ (by simp) fun h₇ hz₇ hs₇ => ?_)
    replace hz₇ : ZipG h₇ z TI TO (rawInt h₅.objs.size) f := hz₇
    refine wpAny_setField_rec hz₇ (by simp) fun h₈ hz₈ hs₈ => ?_
    replace hz₈ : ZipG h₈ z TI TO (rawInt h₅.objs.size) false := hz₈
    have up : ∀ c o, c ≠ z → h₅.get? c = some o → h₈.get? c = some o := fun c o c1 e => hs₈.extBut _ _ c1 (hs₇.extBut _ _ c1 (Heap.get?_push_of_some _ e))
    have hT₈ : IsPair h₈ h₅.objs.size x y := hs₈.extBut _ _ (Nat.ne_of_gt hzlt) (hs₇.extBut _ _ (Nat.ne_of_gt hzlt) (Heap.get?_push_size _ rfl))
    have hz8 : h₈.objs.size = h₅.objs.size + 1 := by rw [hs₈.1, hs₇.1, Heap.size_push]
    rw [hsz] at hz₈ hT₈ hz8
    refine wpAny_pure ⟨_, rfl, ?_⟩
    show Q (.ref h₅.objs.size) _
    rw [hsz]
    exact hQ h₈ ⟨_, _, hz₈, .inr ⟨_, rfl⟩⟩ ⟨_, _, up _ _ D.TOz hTO₅⟩ (h1₅.at fun o e => up _ o D.i1z e) (h2₅.at fun o e => up _ o D.i2z e) hT₈ hz8 fun c o c1 c2 c3 c4 e => up c o c1 (hk₅ c o c1 c2 c3 c4 e)
  · simp only [Bool.false_eq_true, if_false]
    refine wpAny_bind ?_
    rw [← Array.forIn_toList]
    simp only [List.forIn_cons, List.forIn_nil]
    refine wpAny_bind (wpAny_bind (wpAny_holding ?_))
    show wpAny _ _ (Builtin.SmallTypes.nextOf (.ref i1) >>= _) _ _ _
    refine wpAny_bind (wpAny_nextOf_list_item (s := { s with heap := h₁ }) (h1.extBut hs₁.extBut D.i1z) (hl1.extBut hs₁.extBut D.l1z) hx fun h₂ h1₂ hs₂ => wpAny_pure ?_)
    refine wpAny_pure ?_
    refine wpAny_bind (wpAny_bind (wpAny_holding ?_))
    show wpAny _ _ (Builtin.SmallTypes.nextOf (.ref i2) >>= _) _ _ _
    refine wpAny_bind (wpAny_nextOf_list_item (s := { s with heap := h₂ }) ((h2.extBut hs₁.extBut D.i2z).extBut hs₂.extBut D.i12.symm) ((hl2.extBut hs₁.extBut D.l2z).extBut hs₂.extBut D.l2i1) hy fun h₃ h2₃ hs₃ => wpAny_pure ?_)
    refine wpAny_pure (wpAny_pure ?_)
    show wpAny _ _ (newTuple [x, y] >>= _) _ _ _
    refine wpAny_bind (wpAny_newTuple ?_)
    have hsz : h₃.objs.size = s.heap.objs.size := by rw [hs₃.1, hs₂.1, hs₁.1]
    have hz₃ : ZipG h₃ z TI TO f0 true := hs₃.extBut _ _ D.i2z.symm (hs₂.extBut _ _ D.i1z.symm hz₁)
    have hk : ∀ c o, c ≠ z → c ≠ i1 → c ≠ i2 → s.heap.get? c = some o → h₃.get? c = some o := fun c o c1 c2 c3 e => hs₃.extBut _ _ c3 (hs₂.extBut _ _ c2 (hs₁.extBut _ _ c1 e))
    have h1₃ : h₃.IsListIter i1 l1 (k1 + 1) := h1₂.extBut hs₃.extBut D.i12
    refine wpAny_pure ⟨_, rfl, ?_⟩
    show Q (.ref h₃.objs.size) _
    have hp : IsPair (h₃.push { cls := .type "tuple", data := .seq #[x, y] }) h₃.objs.size x y := Heap.get?_push_size _ rfl
    have hz4 : (h₃.push { cls := .type "tuple", data := .seq #[x, y] }).objs.size = h₃.objs.size + 1 := Heap.size_push ..
    rw [hsz] at hp hz4 ⊢
    exact hQ _ ⟨_, _, Heap.get?_push_of_some _ hz₃, h0⟩ ⟨_, _, Heap.get?_push_of_some _ (hk _ _ D.TOz D.TOi1 D.TOi2 hTO)⟩ (h1₃.at fun o e => Heap.get?_push_of_some _ e) (h2₃.at fun o e => Heap.get?_push_of_some _ e) hp hz4
      fun c o c1 _ c2 c3 e => Heap.get?_push_of_some _ (hk c o c1 c2 c3 e)
theorem zipG_end {z TI TO i1 i2 l1 l2 : Addr} {k1 k2 : Nat} {xs ys : Array Value} {Q : Fin → Shared → Prop} (hh : A.handled = none) (D : ZipApart z TI TO i1 i2 l1 l2)
    (hz : ZipA s.heap z TI TO) (hTI : IsPair s.heap TI (.ref i1) (.ref i2)) (hTO : ∃ a b, IsPair s.heap TO a b)
    (h1 : s.heap.IsListIter i1 l1 k1) (h2 : s.heap.IsListIter i2 l2 k2) (hl1 : s.heap.IsList l1 xs) (hl2 : s.heap.IsList l2 ys) (hend : xs[k1]? = none ∨ ys[k2]? = none)
    (hE : ∀ h' e, (∀ c o, c ≠ z → c ≠ TO → c ≠ i1 → c ≠ i2 → s.heap.get? c = some o → h'.get? c = some o) → (∃ o, h'.get? e = some o ∧ o.cls = .type "StopIteration") → E (.ref e) { s with heap := h' }) :
    wpAny (model prog w) A (Builtin.«zip.__next__» ⟨[.ref z], []⟩) Q E s := by
  obtain ⟨f0, f, hz, h0⟩ := hz
  obtain ⟨a, b, hTO⟩ := hTO
  show wpAny _ _ (field (.ref z) 2 >>= _) _ _ _
  refine wpAny_bind (wpAny_field hz rfl (x := .bool false) rfl ?_)
  show wpAny _ _ (field (.ref z) 3 >>= _) _ _ _
  refine wpAny_bind (wpAny_field hz rfl (x := .ref TI) rfl ?_)
  refine wpAny_bind (wpAny_seqItems hTI rfl ?_)
  show wpAny _ _ (Builtin.SmallTypes.ownedTupleIsFree (.ref z) >>= _) _ _ _
  refine wpAny_bind (owned_any hz h0 ?_ fun h₁ hz₁ hs₁ => ?_)
  · simp only [if_true]
    refine wpAny_bind (wpAny_rule ?_)
    refine wpAny_bind (wpAny_field hz rfl (x := .ref TO) rfl ?_)
    refine wpAny_bind (wpAny_setField_rec hz (by simp) fun h₁ hz₁ hs₁ => ?_)
    replace hz₁ : ZipG h₁ z TI TO .ellipsis f := hz₁
    refine wpAny_bind ?_
    simp only [List.zipIdx_cons, List.zipIdx_nil, List.forIn_cons, List.forIn_nil]
    refine wpAny_bind (wpAny_bind (wpAny_onRaise ?_))
    show wpAny _ _ (Builtin.SmallTypes.nextOf (.ref i1) >>= _) _ _ _
    cases hx : xs[k1]? with
    | none =>
      refine wpAny_bind (wpAny_nextOf_list_end hh (h1.extBut hs₁.extBut D.i1z) (hl1.extBut hs₁.extBut D.l1z) hx fun h₂ e hs₂ he => ?_)
      obtain ⟨oe, hoe, hce⟩ := he
      have hz₂ : ZipG h₂ z TI TO .ellipsis f := hs₂ _ _ D.i1z.symm hz₁
      have hez : e ≠ z := fun x => by subst x; rw [hz₂] at hoe; cases hoe; simp at hce
      refine wpAny_setField_rec hz₂ (by simp) fun h₃ _ hs₃ => hE h₃ e (fun c o c1 _ c3 _ x => hs₃.extBut _ _ c1 (hs₂ _ _ c3 (hs₁.extBut _ _ c1 x))) ⟨oe, hs₃.extBut _ _ hez hoe, hce⟩
    | some x =>
      have hy : ys[k2]? = none := by rcases hend with h | h; rw [hx] at h; cases h; exact h
      refine wpAny_bind (wpAny_nextOf_list_item (h1.extBut hs₁.extBut D.i1z) (hl1.extBut hs₁.extBut D.l1z) hx fun h₂ h1₂ hs₂ => wpAny_pure ?_)
      have hTO₂ : IsPair h₂ TO a b := hs₂.extBut _ _ D.TOi1 (hs₁.extBut _ _ D.TOz hTO)
      refine wpAny_bind (wpAny_seqItems hTO₂ rfl ?_)
      refine wpAny_bind (wpAny_updateSeq_pair hTO₂ fun h₃ hTO₃ hs₃ => ?_)
      refine wpAny_bind (wpAny_letGo (wpAny_pure ?_))
      refine wpAny_bind (wpAny_bind (wpAny_onRaise ?_))
      show wpAny _ _ (Builtin.SmallTypes.nextOf (.ref i2) >>= _) _ _ _
      refine wpAny_bind (wpAny_nextOf_list_end hh (((h2.extBut hs₁.extBut D.i2z).extBut hs₂.extBut D.i12.symm).extBut hs₃.extBut D.TOi2.symm)
        (((hl2.extBut hs₁.extBut D.l2z).extBut hs₂.extBut D.l2i1).extBut hs₃.extBut D.l2TO) hy fun h₄ e hs₄ he => ?_)
      obtain ⟨oe, hoe, hce⟩ := he
      have hz₄ : ZipG h₄ z TI TO .ellipsis f := hs₄ _ _ D.i2z.symm (hs₃.extBut _ _ D.TOz.symm (hs₂.extBut _ _ D.i1z.symm hz₁))
      have hez : e ≠ z := fun x => by subst x; rw [hz₄] at hoe; cases hoe; simp at hce
      refine wpAny_setField_rec hz₄ (by simp) fun h₅ _ hs₅ => hE h₅ e (fun c o c1 c2 c3 c4 x => hs₅.extBut _ _ c1 (hs₄ _ _ c4 (hs₃.extBut _ _ c2 (hs₂.extBut _ _ c3 (hs₁.extBut _ _ c1 x))))) ⟨oe, hs₅.extBut _ _ hez hoe, hce⟩
  · simp only [Bool.false_eq_true, if_false]
    refine wpAny_bind ?_
    rw [← Array.forIn_toList]
    simp only [List.forIn_cons, List.forIn_nil]
    refine wpAny_bind (wpAny_bind (wpAny_holding ?_))
    show wpAny _ _ (Builtin.SmallTypes.nextOf (.ref i1) >>= _) _ _ _
    cases hx : xs[k1]? with
    | none =>
      refine wpAny_bind (wpAny_nextOf_list_end (s := { s with heap := h₁ }) hh (h1.extBut hs₁.extBut D.i1z) (hl1.extBut hs₁.extBut D.l1z) hx fun h₂ e hs₂ he => ?_)
      exact hE h₂ e (fun c o c1 _ c2 _ x => hs₂ _ _ c2 (hs₁.extBut _ _ c1 x)) he
    | some x =>
      have hy : ys[k2]? = none := by rcases hend with h | h; rw [hx] at h; cases h; exact h
      refine wpAny_bind (wpAny_nextOf_list_item (s := { s with heap := h₁ }) (h1.extBut hs₁.extBut D.i1z) (hl1.extBut hs₁.extBut D.l1z) hx fun h₂ h1₂ hs₂ => wpAny_pure ?_)
      refine wpAny_pure ?_
      refine wpAny_bind (wpAny_bind (wpAny_holding ?_))
      show wpAny _ _ (Builtin.SmallTypes.nextOf (.ref i2) >>= _) _ _ _
      refine wpAny_bind (wpAny_nextOf_list_end (s := { s with heap := h₂ }) hh ((h2.extBut hs₁.extBut D.i2z).extBut hs₂.extBut D.i12.symm) ((hl2.extBut hs₁.extBut D.l2z).extBut hs₂.extBut D.l2i1) hy fun h₃ e hs₃ he => ?_)
      exact hE h₃ e (fun c o c1 _ c2 c3 x => hs₃ _ _ c3 (hs₂.extBut _ _ c2 (hs₁.extBut _ _ c1 x))) he
/-- what stands apart in an enumerate of a zip -/
structure EZ (e z TI TO i1 i2 : Addr) : Prop where
  z : e ≠ z
  TI : e ≠ TI
  TO : e ≠ TO
  i1 : e ≠ i1
  i2 : e ≠ i2
theorem enumZip_item {e z TI TO i1 i2 l1 l2 : Addr} {i : Nat} {xs ys : Array Value} {x y old : Value} {Q : Option Value → Shared → Prop} (D : ZipApart z TI TO i1 i2 l1 l2) (N : EZ e z TI TO i1 i2)
    (he : IsEnum s.heap e z i old) (hz : ZipA s.heap z TI TO) (hTI : IsPair s.heap TI (.ref i1) (.ref i2)) (hTO : ∃ a b, IsPair s.heap TO a b)
    (h1 : s.heap.IsListIter i1 l1 i) (h2 : s.heap.IsListIter i2 l2 i) (hl1 : s.heap.IsList l1 xs) (hl2 : s.heap.IsList l2 ys) (hx : xs[i]? = some x) (hy : ys[i]? = some y)
    (hQ : ∀ hm h', IsPair hm s.heap.objs.size x y → hm.objs.size = s.heap.objs.size + 1 → (∀ c o, c ≠ z → c ≠ TO → c ≠ i1 → c ≠ i2 → s.heap.get? c = some o → hm.get? c = some o) →
      IsEnumOut h' e z ((i : Int) + 1) (.ref s.heap.objs.size) (s.heap.objs.size + 1) → ZipA h' z TI TO → IsPair h' TI (.ref i1) (.ref i2) → (∃ a b, IsPair h' TO a b) → h'.IsListIter i1 l1 (i + 1) → h'.IsListIter i2 l2 (i + 1) →
      h'.get? (s.heap.objs.size + 1) = some { cls := .type "tuple", data := .seq #[.int i s.toks, .ref s.heap.objs.size] } → h'.objs.size = s.heap.objs.size + 2 →
      (∀ c o, c ≠ e → hm.get? c = some o → h'.get? c = some o) → Q (some (.ref (s.heap.objs.size + 1))) { s with heap := h', toks := s.toks + 1 }) :
    wpAny (model prog w) A (pyNext (.ref e)) Q E s := by
  obtain ⟨hp, g, d, tk, os⟩ := s
  have hTe : Shared.TypeIs ⟨hp, g, d, tk, os⟩ (.ref e) "enumerate" := ⟨_, he, rfl⟩
  have hel : e < hp.objs.size := Heap.lt_size he
  unfold pyNext
  refine wpAny_bind (wpAny_attempt (wpAny_callSpecial?_slot (name := Str.ofString "__next__") hTe F.slot_enumerate_next
    (wpAny_call_entry F.slot_enumerate_next hTe F.entry_enumerate_next ?_ (F.args_enumerate_next_1 _))))
  show wpAny _ _ (field (.ref e) 2 >>= _) _ _ _
  refine wpAny_bind (wpAny_field he rfl (x := .ref z) rfl ?_)
  have hTz : Shared.TypeIs ⟨hp, g, d, tk, os⟩ (.ref z) "zip" := by obtain ⟨f0, f, q, _⟩ := hz; exact ⟨_, q, rfl⟩
  unfold Builtin.SmallTypes.nextOf
  refine wpAny_bind (wpAny_bind (wpAny_callSpecial?_slot (name := Str.ofString "__next__") hTz F.slot_zip_next
    (wpAny_call_entry F.slot_zip_next hTz F.entry_zip_next
      (zipG_item D hz hTI hTO h1 h2 hl1 hl2 hx hy fun hm z1 t1 j1 j2 p1 sz1 k1 => ?_) (F.args_zip_next_1 _))))
  refine wpAny_pure ?_
  replace k1 : ∀ c o, c ≠ z → c ≠ TO → c ≠ i1 → c ≠ i2 → hp.get? c = some o → hm.get? c = some o := k1
  replace p1 : IsPair hm hp.objs.size x y := p1
  replace sz1 : hm.objs.size = hp.objs.size + 1 := sz1
  have he₁ : IsEnum hm e z i old := k1 _ _ N.z N.TO N.i1 N.i2 he
  have hTI₁ : IsPair hm TI (.ref i1) (.ref i2) := k1 _ _ D.TIz D.TITO D.TIi1 D.TIi2 hTI
  show wpAny _ _ (field (.ref e) 3 >>= _) _ _ ⟨hm, g, d, tk, os⟩
  refine wpAny_bind (wpAny_field he₁ rfl (x := rawInt i) rfl ?_)
  show wpAny _ _ (field (.ref e) 4 >>= _) _ _ ⟨hm, g, d, tk, os⟩
  refine wpAny_bind (wpAny_field he₁ rfl (x := .none) rfl ?_)
  show wpAny _ _ (mkInt i >>= _) _ _ ⟨hm, g, d, tk, os⟩
  refine wpAny_bind (wpAny_mkInt ?_)
  show wpAny _ _ (setField (.ref e) 3 (rawInt ((i : Int) + 1)) >>= _) _ _ ⟨hm, g, d, tk + 1, os⟩
  refine wpAny_bind (wpAny_setField_rec he₁ (by simp) fun h₂ he₂ hs₂ => ?_)
  replace hs₂ : Heap.SameBut e hm h₂ := hs₂
  replace he₂ : IsEnum h₂ e z ((i : Int) + 1) old := he₂
  show wpAny _ _ (setField (.ref e) 4 .none >>= _) _ _ ⟨h₂, g, d, tk + 1, os⟩
  refine wpAny_bind (wpAny_setField_rec he₂ (by simp) fun h₃ he₃ hs₃ => ?_)
  replace hs₃ : Heap.SameBut e h₂ h₃ := hs₃
  replace he₃ : IsEnum h₃ e z ((i : Int) + 1) old := he₃
  show wpAny _ _ (newTuple [.int i tk, .ref hp.objs.size] >>= _) _ _ ⟨h₃, g, d, tk + 1, os⟩
  refine wpAny_bind (wpAny_newTuple ?_)
  have he₄ : IsEnum (h₃.push { cls := .type "tuple", data := .seq #[.int i tk, .ref hp.objs.size] }) e z ((i : Int) + 1) old := Heap.get?_push_of_some _ he₃
  generalize hh₄ : h₃.push { cls := .type "tuple", data := .seq #[.int i tk, .ref hp.objs.size] } = h₄ at he₄
  have hsz : h₃.objs.size = hp.objs.size + 1 := by rw [hs₃.1, hs₂.1, sz1]
  have ht₄ : h₄.get? (hp.objs.size + 1) = some { cls := .type "tuple", data := .seq #[.int i tk, .ref hp.objs.size] } := by rw [← hh₄, ← hsz]; exact Heap.get?_push_size _ rfl
  have hz₄ : h₄.objs.size = hp.objs.size + 2 := by rw [← hh₄, Heap.size_push, hsz]
  have hk₄ : ∀ b o, b ≠ e → hm.get? b = some o → h₄.get? b = some o := fun b o hbe hb => by
    rw [← hh₄]; exact Heap.get?_push_of_some _ (hs₃.extBut b o hbe (hs₂.extBut b o hbe hb))
  show wpAny _ _ (Builtin.SmallTypes.ownedTupleIsFree (.ref e) >>= _) _ _ ⟨h₄, g, d, tk + 1, os⟩
  rw [hsz]
  clear hh₄ he₃ hs₃ he₂ hs₂ he₁ hsz h₃ h₂
  refine wpAny_bind ?_
  unfold Builtin.SmallTypes.ownedTupleIsFree
  refine wpAny_bind (wpAny_field he₄ rfl (x := .none) rfl (wpAny_pure ?_))
  simp only [if_true]
  refine wpAny_bind (wpAny_rule ?_)
  refine wpAny_bind (wpAny_field he₄ rfl (x := old) rfl ?_)
  refine wpAny_bind (wpAny_setField_rec he₄ (by simp) fun h₅ he₅ hs₅ => ?_)
  replace hs₅ : Heap.SameBut e h₄ h₅ := hs₅
  replace he₅ : IsEnum h₅ e z ((i : Int) + 1) (.ref hp.objs.size) := he₅
  show wpAny _ _ (Builtin.SmallTypes.ownedTupleHandOut (.ref e) (.ref (hp.objs.size + 1)) >>= _) _ _ ⟨h₅, g, d, tk + 1, os⟩
  refine wpAny_bind ?_
  unfold Builtin.SmallTypes.ownedTupleHandOut
  refine wpAny_bind (wpAny_setField_rec he₅ (by simp) fun h₆ he₆ hs₆ => ?_)
  replace hs₆ : Heap.SameBut e h₅ h₆ := hs₆
  replace he₆ : IsEnumOut h₆ e z ((i : Int) + 1) (.ref hp.objs.size) (hp.objs.size + 1) := he₆
  refine wpAny_setField_rec he₆ (by simp) fun h₇ he₇ hs₇ => ?_
  replace hs₇ : Heap.SameBut e h₆ h₇ := hs₇
  replace he₇ : IsEnumOut h₇ e z ((i : Int) + 1) (.ref hp.objs.size) (hp.objs.size + 1) := he₇
  have up : ∀ b o, b ≠ e → h₄.get? b = some o → h₇.get? b = some o := fun b o hb q => hs₇.extBut _ _ hb (hs₆.extBut _ _ hb (hs₅.extBut _ _ hb q))
  have up2 : ∀ b o, b ≠ e → hm.get? b = some o → h₇.get? b = some o := fun b o hb q => up b o hb (hk₄ b o hb q)
  have hne : hp.objs.size + 1 ≠ e := Nat.ne_of_gt (Nat.lt_succ_of_lt hel)
  refine wpAny_bind (wpAny_letGo (wpAny_pure ⟨_, rfl, wpAny_pure (hQ hm h₇ p1 sz1 k1 he₇ ?_ (up2 _ _ N.TI.symm hTI₁) ?_ (j1.at fun o q => up2 _ o N.i1.symm q) (j2.at fun o q => up2 _ o N.i2.symm q) (up _ _ hne ht₄) ?_ up2)⟩))
  · obtain ⟨f0, f, q, q'⟩ := z1
    exact ⟨f0, f, up2 _ _ N.z.symm q, q'⟩
  · obtain ⟨a, b, q⟩ := t1
    exact ⟨a, b, up2 _ _ N.TO.symm q⟩
  · rw [hs₇.1, hs₆.1, hs₅.1, hz₄]
theorem enumZip_end {e z TI TO i1 i2 l1 l2 : Addr} {i : Nat} {xs ys : Array Value} {old : Value} {Q : Option Value → Shared → Prop} (hh : A.handled = none) (D : ZipApart z TI TO i1 i2 l1 l2)
    (he : IsEnum s.heap e z i old) (hz : ZipA s.heap z TI TO) (hTI : IsPair s.heap TI (.ref i1) (.ref i2)) (hTO : ∃ a b, IsPair s.heap TO a b)
    (h1 : s.heap.IsListIter i1 l1 i) (h2 : s.heap.IsListIter i2 l2 i) (hl1 : s.heap.IsList l1 xs) (hl2 : s.heap.IsList l2 ys) (hend : xs[i]? = none ∨ ys[i]? = none)
    (hQ : ∀ h', (∀ c o, c ≠ z → c ≠ TO → c ≠ i1 → c ≠ i2 → s.heap.get? c = some o → h'.get? c = some o) → Q none { s with heap := h' }) : wpAny (model prog w) A (pyNext (.ref e)) Q E s := by
  have hTe : s.TypeIs (.ref e) "enumerate" := ⟨_, he, rfl⟩
  have hTz : s.TypeIs (.ref z) "zip" := by obtain ⟨f0, f, q, _⟩ := hz; exact ⟨_, q, rfl⟩
  unfold pyNext
  refine wpAny_bind (wpAny_attempt (wpAny_callSpecial?_slot (name := Str.ofString "__next__") hTe F.slot_enumerate_next
    (wpAny_call_entry F.slot_enumerate_next hTe F.entry_enumerate_next ?_ (F.args_enumerate_next_1 _))))
  show wpAny _ _ (field (.ref e) 2 >>= _) _ _ _
  refine wpAny_bind (wpAny_field he rfl (x := .ref z) rfl ?_)
  unfold Builtin.SmallTypes.nextOf
  refine wpAny_bind (wpAny_bind (wpAny_callSpecial?_slot (name := Str.ofString "__next__") hTz F.slot_zip_next
    (wpAny_call_entry F.slot_zip_next hTz F.entry_zip_next (zipG_end hh D hz hTI hTO h1 h2 hl1 hl2 hend fun h' x hk hx' => ?_) (F.args_zip_next_1 _))))
  obtain ⟨o, ho, hc⟩ := hx'
  refine wpAny_bind (wpAny_isInstance (T := "StopIteration") (b := true) ⟨o, ho, hc⟩ isSubtype_stop ?_)
  exact wpAny_pure (hQ _ hk)
theorem enumG_letGo {elts : List Expr} {x1} {pos : Pos} {e z T : Addr} {i : Int} {x : Value} {Q : Unit → Shared → Prop} (he : IsEnumOut s.heap e z i x T)
    (hQ : ∀ h', IsEnum h' e z i x → Heap.SameBut e s.heap h' → Q () { s with heap := h' }) : wpAny (model prog w) A (letOwnedTupleGo (.Tuple elts x1 pos) (.ref e) (.ref T)) Q E s := wpAny_letOwnedTupleGo_enum he hQ
theorem call_enumerate_zip {z TI TO : Addr} {Q : Value → Shared → Prop} (hz : ZipG s.heap z TI TO .none false)
    (h : ∀ h', IsEnum h' s.heap.objs.size z 0 .none → h'.objs.size = s.heap.objs.size + 1 → (∀ b o, s.heap.get? b = some o → h'.get? b = some o) → Q (.ref s.heap.objs.size) { s with heap := h' }) :
    wpAny (model prog w) A (call (.type "enumerate") [.ref z]) Q E s := by
  have me : Meets (Builtin.«enumerate.__new__» ⟨[.type "enumerate", .ref z], []⟩) (fun _ R s => ZipG s.heap z TI TO .none false ∧
      R (.ok (.ret (.ref s.heap.objs.size))) { s with heap := s.heap.push { cls := .type "enumerate", data := .fields #[.none, .bool false, .ref z, rawInt 0, .none, .none] } }) :=
    .of_wp fun prog w A R s h => by
      obtain ⟨hp, g, d, tk, os⟩ := s
      obtain ⟨hz, h⟩ := h
      have hsub := sub_enumerate
      have hZ : IsZip (Shared.heap ⟨hp, g, d, tk, os⟩) z TI TO .none := hz
      wp_walk using AutoSeq1.wpAny_loadPart' hz
      refine wpAny_stack_any fun st => wpAny_pure ?_
      split
      · rename_i c _ _ _ _ _
        cases (c == Value.type "enumerate")
        · wp_walk using AutoSeq1.wpAny_loadPart' hz, wpAny_pyIter_zip hZ
          exact ⟨_, rfl, h⟩
        · wp_walk using AutoSeq1.wpAny_loadPart' hz, wpAny_pyIter_zip hZ
          exact ⟨_, rfl, h⟩
      · wp_walk using AutoSeq1.wpAny_loadPart' hz, wpAny_pyIter_zip hZ
        exact ⟨_, rfl, h⟩
  refine callType_new F.called_enumerate (by decide) (F.typeCall_enumerate_1 _) (F.newCall_enumerate_1 _) (fun obj => F.args_object_init_2 obj _) F.entry_enumerate_new me ⟨hz, ?_⟩
  have he : IsEnum (s.heap.push { cls := .type "enumerate", data := .fields #[.none, .bool false, .ref z, rawInt 0, .none, .none] }) s.heap.objs.size z 0 .none := Heap.get?_push_size _ rfl
  exact ⟨⟨_, he, rfl⟩, h _ he (Heap.size_push ..) fun b o x => Heap.get?_push_of_some _ x⟩
end
/-- the lists at a and b as they stand at each turn, the items in new pairs, the pairs in new pairs behind their number -/
def Itez (K : PySem.W.Frag) (a b : Addr) : It :=
  ⟨fun i H => ∃ (xs ys : List V) (x y : V), SqL K H a xs ∧ SqL K H b ys ∧ xs[i]? = some x ∧ ys[i]? = some y,
    fun i H v H' => ∃ P T x y, v = .ref T ∧ H P = none ∧ H T = none ∧ P ≠ T ∧ H' = upd (upd H P (.tup [x, y])) T (.tup [.int (i : Nat), .ref P]) ∧ (∀ xs, SqL K H a xs → xs[i]? = some x) ∧ ∀ ys, SqL K H b ys → ys[i]? = some y,
    fun i H => ∃ xs ys : List V, SqL K H a xs ∧ SqL K H b ys ∧ (xs.length ≤ i ∨ ys.length ≤ i)⟩
theorem turn_enumZip {P : Program} {w : World} {K : PySem.W.Frag} {elts : List Expr} {kk : Nat} {tpos : Pos} {a b e z TI TO i1 i2 : Addr} (D : ZipApart z TI TO i1 i2 a b) (N : EZ e z TI TO i1 i2) :
    Turn P w K (.Tuple elts kk tpos) (Itez K a b) [e, z, TI, TO, i1, i2] e (fun i h => (∃ old, IsEnum h e z ((i : Nat) : Int) old) ∧ ZipA h z TI TO ∧ IsPair h TI (.ref i1) (.ref i2) ∧ (∃ x y, IsPair h TO x y) ∧ h.IsListIter i1 a i ∧ h.IsListIter i2 b i) where
  mem := by simp
  obj := fun i h st c hc => by
    obtain ⟨⟨old, he⟩, ⟨f0, f, hz, _⟩, hTI, ⟨x, y, hTO⟩, ⟨o1, e1, _, d1⟩, ⟨o2, e2, _, d2⟩⟩ := st
    have e' : c = e ∨ c = z ∨ c = TI ∨ c = TO ∨ c = i1 ∨ c = i2 := by simpa using hc
    rcases e' with q | q | q | q | q | q
    · rw [q]; exact ⟨_, he, fun v q => nomatch q⟩
    · rw [q]; exact ⟨_, hz, fun v q => nomatch q⟩
    · rw [q]; exact ⟨_, hTI, fun v q => nomatch q⟩
    · rw [q]; exact ⟨_, hTO, fun v q => nomatch q⟩
    · rw [q]; exact ⟨o1, e1, fun v q => by rw [d1] at q; cases q⟩
    · rw [q]; exact ⟨o2, e2, fun v q => by rw [d2] at q; cases q⟩
  keep := fun i h h' st k => by
    obtain ⟨⟨old, he⟩, ⟨f0, f, hz, h0⟩, hTI, ⟨x, y, hTO⟩, h1, h2⟩ := st
    exact ⟨⟨old, k e (by simp) _ he⟩, ⟨f0, f, k z (by simp) _ hz, h0⟩, k TI (by simp) _ hTI, ⟨x, y, k TO (by simp) _ hTO⟩, h1.at fun o q => k i1 (by simp) o q, h2.at fun o q => k i2 (by simp) o q⟩
  item := by
    intro X hP hw hK hc i pins s σ H E I hf st hg
    subst hP hw hK
    obtain ⟨⟨old, he⟩, hz, hTI, hTO, h1, h2⟩ := st
    obtain ⟨xs, ys, x, y, hqx, hqy, hx, hy⟩ := hg
    obtain ⟨its, rv, p, _⟩ := I.list hqx
    obtain ⟨its2, rv2, p2, _⟩ := I.list hqy
    obtain ⟨u, hu, ru⟩ := rv.get hx
    obtain ⟨u2, hu2, ru2⟩ := rv2.get hy
    have lt : ∀ c, c ∈ [e, z, TI, TO, i1, i2] → c < s.heap.objs.size := fun c hcm => by
      have e' : c = e ∨ c = z ∨ c = TI ∨ c = TO ∨ c = i1 ∨ c = i2 := by simpa using hcm
      obtain ⟨f0, f, hz', _⟩ := hz
      obtain ⟨_, _, hTO'⟩ := hTO
      rcases e' with q | q | q | q | q | q
      · rw [q]; exact Heap.lt_size he
      · rw [q]; exact Heap.lt_size hz'
      · rw [q]; exact Heap.lt_size hTI
      · rw [q]; exact Heap.lt_size hTO'
      · rw [q]; obtain ⟨_, e1, _⟩ := h1; exact Heap.lt_size e1
      · rw [q]; obtain ⟨_, e2, _⟩ := h2; exact Heap.lt_size e2
    refine enumZip_item D N he hz hTI hTO h1 h2 p.isList p2.isList (x := u) (y := u2) (by simpa using hu) (by simpa using hu2) fun hm h' pm szm km he' hz' hTI' hTO' h1' h2' hT sz' k' => ?_
    refine ⟨_, rfl, wpAny_letOwnedTupleGo_enum (s := { s with heap := h', toks := s.toks + 1 }) he' fun h'' he'' sb => ?_⟩
    replace sb : Heap.SameBut e h' h'' := sb
    have new1 : ObjOk X.prog X.w (upd H s.heap.objs.size (.tup [x, y])) hm s.heap.objs.size (.tup [x, y]) :=
      ⟨by show 2 ≤ sizeLine; decide, [u, u2], .cons ru (.cons ru2 .nil), ⟨_, pm, rfl, _, rfl⟩⟩
    have I1 : Inv X pins σ (upd H s.heap.objs.size (.tup [x, y])) { s with heap := hm } :=
      I.turnedNew (t' := s.toks) (ch := [e, z, TI, TO, i1, i2]) (fun c o hb q => km c o (fun q' => hb (by simp [q'])) (fun q' => hb (by simp [q'])) (fun q' => hb (by simp [q'])) (fun q' => hb (by simp [q'])) q) hf (Nat.le_refl _) new1
    have hf1 : ∀ c ∈ [e, z, TI, TO, i1, i2], FpOk X pins (upd H s.heap.objs.size (.tup [x, y])) c := fun c hcm => ⟨by rw [upd_ne (Nat.ne_of_lt (lt c hcm))]; exact (hf c hcm).1, (hf c hcm).2⟩
    have hel : e < s.heap.objs.size := lt e (by simp)
    have hT2 : h''.get? (s.heap.objs.size + 1) = some { cls := .type "tuple", data := .seq #[.int i s.toks, .ref s.heap.objs.size] } := (sb.2 _ (Nat.ne_of_gt (Nat.lt_succ_of_lt hel))).trans hT
    have new2 : ObjOk X.prog X.w (upd (upd H s.heap.objs.size (.tup [x, y])) (s.heap.objs.size + 1) (.tup [.int (i : Nat), .ref s.heap.objs.size])) h'' (s.heap.objs.size + 1) (.tup [.int (i : Nat), .ref s.heap.objs.size]) :=
      ⟨by show 2 ≤ sizeLine; decide, [.int i s.toks, .ref s.heap.objs.size], .cons ⟨_, rfl⟩ (.cons rfl .nil), ⟨_, hT2, rfl, _, rfl⟩⟩
    have I2 : Inv X pins σ (upd (upd H s.heap.objs.size (.tup [x, y])) (s.heap.objs.size + 1) (.tup [.int (i : Nat), .ref s.heap.objs.size])) { s with heap := h'', toks := s.toks + 1 } :=
      I1.turnedNew (ch := [e, z, TI, TO, i1, i2]) (fun c o hb q => (sb.2 c (fun z => hb (by simp [z]))).trans (k' c o (fun z => hb (by simp [z])) q)) hf1 (Nat.le_of_eq szm) new2
    refine ⟨.ref (s.heap.objs.size + 1), _, I2, rfl, ⟨_, _, x, y, rfl, I.hok.fresh (Nat.le_refl _), I.hok.fresh (Nat.le_succ _), Nat.ne_of_lt (Nat.lt_succ_self _), rfl, fun l hl => by rw [I.list_inj hl hqx]; exact hx, fun l hl => by rw [I.list_inj hl hqy]; exact hy⟩,
      ⟨⟨.ref s.heap.objs.size, ?_⟩, ?_, (sb.2 _ N.TI.symm).trans hTI', ?_, h1'.at fun o q => (sb.2 _ N.i1.symm).trans q, h2'.at fun o q => (sb.2 _ N.i2.symm).trans q⟩, fun c hcm => ?_⟩
    · have e1 : ((i + 1 : Nat) : Int) = (i : Int) + 1 := by omega
      rw [e1]; exact he''
    · obtain ⟨f0, f, q, q'⟩ := hz'
      exact ⟨f0, f, (sb.2 _ N.z.symm).trans q, q'⟩
    · obtain ⟨a', b', q⟩ := hTO'
      exact ⟨a', b', (sb.2 _ N.TO.symm).trans q⟩
    · rw [upd_ne (Nat.ne_of_lt (Nat.lt_succ_of_lt (lt c hcm))), upd_ne (Nat.ne_of_lt (lt c hcm))]
      exact (hf c hcm).1
  done := by
    intro X hP hw hK hc i pins s σ H E I hf st hg
    subst hP hw hK
    obtain ⟨⟨old, he⟩, hz, hTI, hTO, h1, h2⟩ := st
    obtain ⟨xs, ys, hqx, hqy, hend⟩ := hg
    obtain ⟨its, rv, p, _⟩ := I.list hqx
    obtain ⟨its2, rv2, p2, _⟩ := I.list hqy
    have l1 := rv.length
    have l2 := rv2.length
    have he' : its.toArray[i]? = none ∨ its2.toArray[i]? = none := by
      rcases hend with q | q
      · exact .inl (by simp; omega)
      · exact .inr (by simp; omega)
    exact enumZip_end (I.ok.hd hc) D he hz hTI hTO h1 h2 p.isList p2.isList he' fun h' hk => ⟨rfl, I.turnedL (t' := s.toks) (ch := [e, z, TI, TO, i1, i2]) (fun c o hb q =>
      hk c o (fun q' => hb (by simp [q'])) (fun q' => hb (by simp [q'])) (fun q' => hb (by simp [q'])) (fun q' => hb (by simp [q'])) q) hf⟩
  self := fun A i s Q E st h => let ⟨⟨_, he⟩, _⟩ := st; wpAny_pyIter_enum he h
def iEnumZip (K : PySem.W.Frag) (ta : TA) : TI := fun σ H R => ta σ H fun vs H1 => ∃ a b xs ys, vs = [.ref a, .ref b] ∧ SqL K H1 a xs ∧ SqL K H1 b ys ∧ R (Itez K a b) H1
theorem pi_enumZip {X : Cx} {e e2 : Expr} {ta : TA} {p p2 q pos tpos : Pos} {elts : List Expr} {kk : Nat} (hg : Gl X "enumerate") (hm : X.mg "enumerate" = none) (hg2 : Gl X "zip") (hm2 : X.mg "zip" = none) (ha : PA X [e, e2] ta)
    (na : starEach [.Call (.Name "zip" p2) [e, e2] [] q] X.env = [(false, eval (.Call (.Name "zip" p2) [e, e2] [] q) X.env)] := by rfl)
    (hs : starEach [e, e2] X.env = (false, eval e X.env) :: starEach [e2] X.env := by rfl) (hpl : (backTo q (starEach [e2] X.env)).any (·.1) = false := by rfl) :
    PI X (.Tuple elts kk tpos) (.Call (.Name "enumerate" p) [.Call (.Name "zip" p2) [e, e2] [] q] [] pos) (iEnumZip X.K ta) := by
  refine ⟨fun pins s σ H R I h => ?_⟩
  refine Call_ (ld_blt I hg hm boot_enumerate (PyProof.Rows.callWith_type1 (PyProof.Rows.args_cons ?_ rfl) na rfl))
  refine Call_ (ld_blt I hg2 hm2 PyProof.Rows.boot_zip (PyProof.Rows.callWith_type1 (thn (ha.run q pins s σ H _ I h) fun us s1 ⟨vs, H1, I1, r1, q1⟩ => ?_) hs hpl))
  obtain ⟨a, b, xs, ys, ex, hqx, hqy, q1⟩ := q1
  subst ex
  cases r1 with
  | cons r rr =>
    cases rr with
    | cons r' rr =>
      cases rr
      cases r
      cases r'
      obtain ⟨its, rv, p1, _⟩ := I1.list hqx
      obtain ⟨its2, rv2, p2, _⟩ := I1.list hqy
      have la : a < s1.heap.objs.size := p1.lt
      have lb : b < s1.heap.objs.size := p2.lt
      refine call_zip_2 p1.isList p2.isList fun h' hz hTI hTO h1 h2 hsz hk => PyProof.Rows.args_nil ?_
      refine call_enumerate_zip (s := { s1 with heap := h' }) hz fun h'' he hsz2 hk2 => wpAny_pyIter_enum he ?_
      replace hk2 : ∀ b o, h'.get? b = some o → h''.get? b = some o := hk2
      have I2 : Inv X pins σ H1 { s1 with heap := h'' } := I1.kept (t' := s1.toks) fun b o z => hk2 b o (hk b o z)
      have hE : h'.objs.size = s1.heap.objs.size + 5 := hsz
      have N : EZ h'.objs.size (s1.heap.objs.size + 4) (s1.heap.objs.size + 2) (s1.heap.objs.size + 3) s1.heap.objs.size (s1.heap.objs.size + 1) := by
        rw [hE]
        constructor <;> (intro z; have z' : (_ : Nat) = _ := z; omega)
      refine ⟨h'.objs.size, [h'.objs.size, s1.heap.objs.size + 4, s1.heap.objs.size + 2, s1.heap.objs.size + 3, s1.heap.objs.size, s1.heap.objs.size + 1], _, _, H1, rfl, I2, turn_enumZip (PySem.W.ktu_apart s1.heap.objs.size a b la lb) N,
        ⟨⟨.none, he⟩, ⟨.none, false, hk2 _ _ hz, .inl rfl⟩, hk2 _ _ hTI, ⟨_, _, hk2 _ _ hTO⟩, h1.at fun o q => hk2 _ o q, h2.at fun o q => hk2 _ o q⟩, fun c hcm => ?_, q1⟩
      have e' : c = h'.objs.size ∨ c = s1.heap.objs.size + 4 ∨ c = s1.heap.objs.size + 2 ∨ c = s1.heap.objs.size + 3 ∨ c = s1.heap.objs.size ∨ c = s1.heap.objs.size + 1 := by simpa using hcm
      have hle : s1.heap.objs.size ≤ c := by
        rcases e' with z | z | z | z | z | z
        · rw [z, hE]; exact Nat.le_add_right _ _
        · rw [z]; exact Nat.le_add_right _ _
        · rw [z]; exact Nat.le_add_right _ _
        · rw [z]; exact Nat.le_add_right _ _
        · rw [z]; exact Nat.le_refl _
        · rw [z]; exact Nat.le_add_right _ _
      exact I1.fpOk hle (I1.hok.fresh hle)
end Lm

/-! R18: f(k2 = b, k1 = a), a def by keywords alone. -/
namespace Lm
open PySem L2
def tCallK0 (sp : Sp) (m : Nat) (gV : List V → List V → List V) (E : XK) (tk : TA) : TE := fun σ H Q => tk σ H fun zs H2 => zs.length = m ∧ sp (gV [] zs) H2 Q E
theorem Fun.swap0 {K : PySem.W.Frag} {x qual : Str} {st : Stmt} {f : Addr} {fd : FuncData} {ps : List Str} {k1 k2 : Str} (F : Fun K x qual st f fd)
    (h : ∀ (kV doc pm : Value) (an : Option Addr) (cdv ct : Value) (b c : Value), bindArgs (PySem.W.fnOf x qual (defArgs st) (defBody st) (defScope st) .none kV doc pm an cdv ct) ⟨[], [(k2, c), (k1, b)]⟩ = pure (ps.zip [b, c])) : KBn K fd ps 0 [k2, k1] swapR swapR := by
  obtain ⟨oc, od, kV, doc, pm, an, cdv, ct, osl, rfl, lk, hcd⟩ := F.ex
  refine ⟨fun s us ws X l1 l2 => ?_, fun r1 r2 => vals_app r1 (vals_rev r2)⟩
  match us, ws, l1, l2 with
  | [], [c, b], _, _ => exact .of_eq (h kV doc pm an cdv ct b c)
section
variable {X : Cx} {k : Nat} {f : Addr} {fd : FuncData} {ps ks : List Str} {sp : Sp} {x : Str} {p pos : Pos} {kws : List Keyword} {tk : TA} {g : List Value → List Value → List Value} {gV : List V → List V → List V}
theorem pe_dK (D : DefOk X.prog X.w X.K X.mg X.base k x f fd ps sp) (hb : KBn X.K fd ps 0 ks g gV) (hr : Room k X.A) (hkw : PK X kws tk) (hg : Gl X x := by rfl) (hdb : (x == ("__debug__" : Str)) = false := by decide)
    (hall : (backToKw pos (keywordEach kws X.env)).all (·.1.isSome) = true := by rfl) (hks : (backToKw pos (keywordEach kws X.env)).filterMap (·.1) = ks := by rfl)
    (hpl : ((backTo pos (starEach [] X.env)).any (·.1) || (backToKw pos (keywordEach kws X.env)).any (·.1.isNone)) = false := by rfl) :
    PE X (.Call (.Name x p) [] kws pos) (tCallK0 sp ks.length gV E0 tk) := by
  refine ⟨fun pins s σ H Q I h => ?_⟩
  refine wpAny_Call_Name_kw (ld_glob I hg D.mg ?_ hdb)
  refine PySem.W.callWith_KW0 (h₀ := X.base) I.ok.mod.kin D.kp hall ?_ hpl
  refine thn (hkw.run pos pins s σ H _ I h) fun ws s2 ⟨zs, H2, I2, rz, l2, q2⟩ => ⟨I2.kIn, ?_⟩
  rw [hks]
  have r2 := hb.rel (vs := []) (us := []) .nil rz
  have hl : (g [] ws).length = ps.length := by rw [← r2.length]; exact D.ok.len _ _ _ _ q2
  refine wpAny_call (codeAny_mono (D.ok.run X.A X.stack s2 H2 ⟨[], ks.zip ws⟩ (g [] ws) (gV [] zs) Q E0 hr I2.env0 (hb.to s2 [] ws I2.kIn rfl (rz.length.symm.trans l2)) r2 q2) fun r s' hq => ?_)
  cases r with
  | error e => exact pass0 pins σ H2 s2 e s' I2 hq
  | ok fl =>
    cases fl with
    | ret u => exact I2.after hq
    | next => exact False.elim hq
    | brk => exact False.elim hq
    | cont => exact False.elim hq
end
end Lm

namespace Lm
open PySem L2 Evl RZ
def rIsN : R2 := fun x y H Q => y = .non ∧ Q (.bl (decide (x = .non))) H
def rNotN : R2 := fun x y H Q => y = .non ∧ Q (.bl (!decide (x = .non))) H
theorem op_isN1 {X : Cx} : OpR X (compareOp .Is) rIsN := op_isN
theorem op_notN1 {X : Cx} : OpR X (compareOp .IsNot) rNotN := op_notN
theorem pi_or {X : Cx} {tg e : Expr} {w w' : TI} (h : PI X tg e w) (h' : PI X tg e w') : PI X tg e (fun σ H R => w σ H R ∨ w' σ H R) := ⟨fun pins s σ H R I q => q.elim (h.run pins s σ H R I) (h'.run pins s σ H R I)⟩
theorem for_EZ {K : PySem.W.Frag} {a b : Addr} {xs ys : List V} {g : TG} {tb : TS} {D : Ends} {σ : L2.St} {H : Hp} (hl : xs.length = ys.length) (Pv : Nat → L2.St → Hp → Prop) (h0 : Pv 0 σ H) (hq : ∀ i σ H, Pv i σ H → SqL K H a xs ∧ SqL K H b ys)
    (hs : ∀ (i : Nat) (x y : V) (B T : Addr) (σ : L2.St) (H : Hp), xs[i]? = some x → ys[i]? = some y → Pv i σ H → H B = none → H T = none → B ≠ T → g (.ref T) σ (upd (upd H B (.tup [x, y])) T (.tup [.int (i : Nat), .ref B])) fun σ2 H2 => tb { D with nx := Pv (i + 1), ct := Pv (i + 1), bk := D.nx } σ2 H2) (hd : ∀ σ H, Pv xs.length σ H → D.nx σ H) :
    ∃ W : Nat → Nat → L2.St → Hp → Prop, (∃ m, W 0 m σ H) ∧ ∀ i m σ H, W i m σ H →
      ((Itez K a b).stop i H ∧ D.nx σ H) ∨ ((Itez K a b).go i H ∧ ∃ N : L2.St → Hp → Prop, (∀ σ' H', N σ' H' → ∃ m', m' < m ∧ W (i + 1) m' σ' H') ∧ ∀ v H', (Itez K a b).yld i H v H' → g v σ H' fun σ2 H2 => tb { D with nx := N, ct := N, bk := D.nx } σ2 H2) := by
  refine ⟨fun i m σ H => m = xs.length - i ∧ i ≤ xs.length ∧ Pv i σ H, ⟨xs.length, rfl, Nat.zero_le _, h0⟩, ?_⟩
  rintro i m σ H ⟨rfl, hi, p⟩
  obtain ⟨qx, qy⟩ := hq i σ H p
  by_cases hlt : i < xs.length
  · have hx : xs[i]? = some xs[i] := List.getElem?_eq_getElem hlt
    have hlt2 : i < ys.length := by omega
    have hy : ys[i]? = some ys[i] := List.getElem?_eq_getElem hlt2
    refine .inr ⟨⟨xs, ys, _, _, qx, qy, hx, hy⟩, Pv (i + 1), fun σ' H' p' => ⟨xs.length - (i + 1), by omega, rfl, hlt, p'⟩, fun v H' y => ?_⟩
    obtain ⟨B, T, x', y', rfl, hB, hT, hBT, rfl, f1, f2⟩ := y
    exact hs i x' y' B T σ H (f1 xs qx) (f2 ys qy) p hB hT hBT
  · have e : i = xs.length := by omega
    subst e
    exact .inl ⟨⟨xs, ys, qx, qy, Or.inl (Nat.le_refl _)⟩, hd σ H p⟩
/-- for i, (x, y) in enumerate(zip(a, b)): -/
theorem s_forEZ {K : PySem.W.Frag} {a b : Addr} {xs ys : List V} {ta : TA} {i j k : Nat} {tu : TS} {D : Ends} {σ : L2.St} {H : Hp} (h : EvA ta σ H [.ref a, .ref b]) (ha : H a = some (.lst xs)) (hb : H b = some (.lst ys)) (hl : xs.length = ys.length) (Pv : Nat → L2.St → Hp → Prop) (h0 : ∀ H1, Ex H H1 → Pv 0 σ H1)
    (hq : ∀ i σ' H', Pv i σ' H' → Ex H H') (hs : ∀ (n : Nat) (x y : V) (σ' : L2.St) (H' H2 : Hp), xs[n]? = some x → ys[n]? = some y → Pv n σ' H' → Ex H' H2 → tu { D with nx := Pv (n + 1), ct := Pv (n + 1), bk := D.nx } (((σ'.set i (some (.int (n : Nat)))).set j (some x)).set k (some y)) H2)
    (hd : ∀ σ' H', Pv xs.length σ' H' → D.nx σ' H') : tFor (iEnumZip K ta) (gTup K 2 (gCons (gName i) (gCons (gTup K 2 (gCons (gName j) (gCons (gName k) gNil))) gNil))) tu D σ H :=
  h H (Ex.refl H) _ fun H1 e => ⟨a, b, xs, ys, rfl, SqL.of (e _ _ ha), SqL.of (e _ _ hb), for_EZ hl Pv (h0 H1 e) (fun i σ' H' p => ⟨SqL.of (hq i σ' H' p _ _ ha), SqL.of (hq i σ' H' p _ _ hb)⟩) (fun n x y B T σ' H' hx hy p hB hT hBT => by
    have h1 : (upd (upd H' B (.tup [x, y])) T (.tup [.int (n : Nat), .ref B])) B = some (.tup [x, y]) := by rw [upd_ne hBT, upd_same]
    have e2 : Ex H' (upd (upd H' B (.tup [x, y])) T (.tup [.int (n : Nat), .ref B])) := Ex.trans (Ex.new hB) (Ex.new (by rw [upd_ne hBT.symm]; exact hT))
    exact ⟨T, _, rfl, SqT.of upd_same, rfl, _, _, rfl, _, _, rfl, ⟨B, _, rfl, SqT.of h1, rfl, _, _, rfl, _, _, rfl, rfl, ⟨rfl, hs n x y σ' H' _ hx hy p e2⟩⟩⟩) hd⟩
theorem q_forEZ {K : PySem.W.Frag} {a b : Addr} {xs ys : List V} {ta : TA} {i j k : Nat} {tu tz : TS} {D : Ends} {σ : L2.St} {H : Hp} (h : EvA ta σ H [.ref a, .ref b]) (ha : H a = some (.lst xs)) (hb : H b = some (.lst ys)) (hl : xs.length = ys.length) (Pv : Nat → L2.St → Hp → Prop) (h0 : ∀ H1, Ex H H1 → Pv 0 σ H1)
    (hq : ∀ i σ' H', Pv i σ' H' → Ex H H') (hs : ∀ (n : Nat) (x y : V) (σ' : L2.St) (H' H2 : Hp), xs[n]? = some x → ys[n]? = some y → Pv n σ' H' → Ex H' H2 → tu { D with nx := Pv (n + 1), ct := Pv (n + 1), bk := tz D } (((σ'.set i (some (.int (n : Nat)))).set j (some x)).set k (some y)) H2)
    (hd : ∀ σ' H', Pv xs.length σ' H' → tz D σ' H') : tSeq (tFor (iEnumZip K ta) (gTup K 2 (gCons (gName i) (gCons (gTup K 2 (gCons (gName j) (gCons (gName k) gNil))) gNil))) tu) tz D σ H := s_forEZ (D := { D with nx := tz D }) h ha hb hl Pv h0 hq hs hd
end Lm

/-! R20: zip of three lists; zip of a list and a tuple. -/
namespace Lm
open PySem PySem.Spec PyProof.Rows L2 Evl RZ
/-- the lists at a, b and c as they stand at each turn, the items in new triples -/
def Itz3 (K : PySem.W.Frag) (a b c : Addr) : It :=
  ⟨fun i H => ∃ (xs ys us : List V) (x y u : V), SqL K H a xs ∧ SqL K H b ys ∧ SqL K H c us ∧ xs[i]? = some x ∧ ys[i]? = some y ∧ us[i]? = some u,
    fun i H v H' => ∃ T x y u, v = .ref T ∧ H T = none ∧ H' = upd H T (.tup [x, y, u]) ∧ (∀ xs, SqL K H a xs → xs[i]? = some x) ∧ (∀ ys, SqL K H b ys → ys[i]? = some y) ∧ ∀ us, SqL K H c us → us[i]? = some u,
    fun i H => ∃ xs ys us : List V, SqL K H a xs ∧ SqL K H b ys ∧ SqL K H c us ∧ i ≤ xs.length ∧ i ≤ ys.length ∧ i ≤ us.length ∧ (i = xs.length ∨ i = ys.length ∨ i = us.length)⟩
theorem turn_zip3 {P : Program} {w : World} {K : PySem.W.Frag} {elts : List Expr} {kk : Nat} {tpos : Pos} {a b c z TI TO i1 i2 i3 : Addr} (S : ZipSep3 z TI TO i1 i2 i3 [i1, a] [i2, b] [i3, c]) (n1 : a ≠ i1) (n2 : b ≠ i2) (n3 : c ≠ i3) :
    Turn P w K (.Tuple elts kk tpos) (Itz3 K a b c) [z, TI, TO, i1, i2, i3] z (fun i h => IsZip h z TI TO .none ∧ IsTupOf3 h TI (.ref i1) (.ref i2) (.ref i3) ∧ (∃ x y u, IsTupOf3 h TO x y u) ∧ h.IsListIter i1 a i ∧ h.IsListIter i2 b i ∧ h.IsListIter i3 c i) where
  mem := by simp
  obj := fun i h st d hd => by
    obtain ⟨hz, hTI, ⟨x, y, u, hTO⟩, ⟨o1, e1, _, d1⟩, ⟨o2, e2, _, d2⟩, ⟨o3, e3, _, d3⟩⟩ := st
    have e' : d = z ∨ d = TI ∨ d = TO ∨ d = i1 ∨ d = i2 ∨ d = i3 := by simpa using hd
    rcases e' with q | q | q | q | q | q
    · rw [q]; exact ⟨_, hz, fun v q => nomatch q⟩
    · rw [q]; exact ⟨_, hTI, fun v q => nomatch q⟩
    · rw [q]; exact ⟨_, hTO, fun v q => nomatch q⟩
    · rw [q]; exact ⟨o1, e1, fun v q => by rw [d1] at q; cases q⟩
    · rw [q]; exact ⟨o2, e2, fun v q => by rw [d2] at q; cases q⟩
    · rw [q]; exact ⟨o3, e3, fun v q => by rw [d3] at q; cases q⟩
  keep := fun i h h' st k => by
    obtain ⟨hz, hTI, ⟨x, y, u, hTO⟩, h1, h2, h3⟩ := st
    exact ⟨k z (by simp) _ hz, k TI (by simp) _ hTI, ⟨x, y, u, k TO (by simp) _ hTO⟩, h1.at fun o q => k i1 (by simp) o q, h2.at fun o q => k i2 (by simp) o q, h3.at fun o q => k i3 (by simp) o q⟩
  item := by
    intro X hP hw hK hc i pins s σ H E I hf st hg
    subst hP hw hK
    obtain ⟨hz, hTI, ⟨x0, y0, u0, hTO⟩, h1, h2, h3⟩ := st
    obtain ⟨xs, ys, us, x, y, u, hqx, hqy, hqu, hx, hy, hu⟩ := hg
    obtain ⟨its, rv, p, _⟩ := I.list hqx
    obtain ⟨its2, rv2, p2, _⟩ := I.list hqy
    obtain ⟨its3, rv3, p3, _⟩ := I.list hqu
    obtain ⟨v1, hv1, ru1⟩ := rv.get hx
    obtain ⟨v2, hv2, ru2⟩ := rv2.get hy
    obtain ⟨v3, hv3, ru3⟩ := rv3.get hu
    have hzl : z < s.heap.objs.size := Heap.lt_size hz
    have hh : X.A.in1.handled = none := I.ok.hd hc
    have b1 : i < its.toArray.size := by simpa using (List.getElem?_eq_some_iff.mp hv1).1
    have b2 : i < its2.toArray.size := by simpa using (List.getElem?_eq_some_iff.mp hv2).1
    have b3 : i < its3.toArray.size := by simpa using (List.getElem?_eq_some_iff.mp hv3).1
    refine wpAny_pyNext_zipD3_item S (Draws.list hh i1 a n1 its.toArray) (Draws.list hh i2 b n2 its2.toArray) (Draws.list hh i3 c n3 its3.toArray) hz hTI hTO ⟨h1, p.isList⟩ ⟨h2, p2.isList⟩ ⟨h3, p3.isList⟩ b1 b2 b3 fun y1 y2 y3 h' tk q1 q2 q3 z' TO' h1' h2' h3' hT hsz hk => ?_
    have e1 : y1 = v1 := by
      have : its[i]? = some y1 := by simpa using q1
      rw [hv1] at this; exact (Option.some.inj this).symm
    have e2 : y2 = v2 := by
      have : its2[i]? = some y2 := by simpa using q2
      rw [hv2] at this; exact (Option.some.inj this).symm
    have e3 : y3 = v3 := by
      have : its3[i]? = some y3 := by simpa using q3
      rw [hv3] at this; exact (Option.some.inj this).symm
    subst e1 e2 e3
    refine ⟨_, rfl, wpAny_letOwnedTupleGo_zip (s := { s with heap := h', toks := tk }) z' fun h'' z'' sb => ?_⟩
    replace sb : Heap.SameBut z h' h'' := sb
    have hT2 : h''.get? s.heap.objs.size = some { cls := .type "tuple", data := .seq #[y1, y2, y3] } := (sb.2 _ (Nat.ne_of_gt hzl)).trans hT
    have new : ObjOk X.prog X.w (upd H s.heap.objs.size (.tup [x, y, u])) h'' s.heap.objs.size (.tup [x, y, u]) :=
      ⟨by show 3 ≤ sizeLine; decide, [y1, y2, y3], .cons ru1 (.cons ru2 (.cons ru3 .nil)), ⟨_, hT2, rfl, _, rfl⟩⟩
    have I1 : Inv X pins σ (upd H s.heap.objs.size (.tup [x, y, u])) { s with heap := h'', toks := tk } :=
      I.turnedNew (ch := [z, TI, TO, i1, i2, i3]) (fun d o hb q => (sb.2 d (fun q' => hb (by simp [q']))).trans (hk d o (fun q' => hb (by simp [q'])) (fun q' => hb (by simp [q'])) (fun q' => hb (by simp [q'])) (fun q' => hb (by simp [q'])) (fun q' => hb (by simp [q'])) q)) hf (Nat.le_refl _) new
    refine ⟨.ref s.heap.objs.size, _, I1, rfl, ⟨_, x, y, u, rfl, I.hok.fresh (Nat.le_refl _), rfl, fun l hl => by rw [I.list_inj hl hqx]; exact hx, fun l hl => by rw [I.list_inj hl hqy]; exact hy, fun l hl => by rw [I.list_inj hl hqu]; exact hu⟩,
      ⟨z'', ?_, ⟨y1, y2, y3, ?_⟩, ?_, ?_, ?_⟩, fun d hdm => ?_⟩
    · exact (sb.2 _ S.TIz).trans (hk _ _ S.TIz S.TITO S.TIi1 S.TIi2 S.TIi3 hTI)
    · exact (sb.2 _ S.TOz).trans TO'
    · exact h1'.1.at fun o q => (sb.2 _ S.zi1.symm).trans q
    · exact h2'.1.at fun o q => (sb.2 _ S.zi2.symm).trans q
    · exact h3'.1.at fun o q => (sb.2 _ S.zi3.symm).trans q
    · have hlt : d < s.heap.objs.size := by
        have e' : d = z ∨ d = TI ∨ d = TO ∨ d = i1 ∨ d = i2 ∨ d = i3 := by simpa using hdm
        rcases e' with q | q | q | q | q | q
        · rw [q]; exact hzl
        · rw [q]; exact Heap.lt_size hTI
        · rw [q]; exact Heap.lt_size hTO
        · rw [q]; obtain ⟨_, e1, _⟩ := h1; exact Heap.lt_size e1
        · rw [q]; obtain ⟨_, e2, _⟩ := h2; exact Heap.lt_size e2
        · rw [q]; obtain ⟨_, e3, _⟩ := h3; exact Heap.lt_size e3
      rw [upd_ne (Nat.ne_of_lt hlt)]
      exact (hf d hdm).1
  done := by
    intro X hP hw hK hc i pins s σ H E I hf st hg
    subst hP hw hK
    obtain ⟨hz, hTI, ⟨x0, y0, u0, hTO⟩, h1, h2, h3⟩ := st
    obtain ⟨xs, ys, us, hqx, hqy, hqu, l1, l2, l3, hend⟩ := hg
    obtain ⟨its, rv, p, _⟩ := I.list hqx
    obtain ⟨its2, rv2, p2, _⟩ := I.list hqy
    obtain ⟨its3, rv3, p3, _⟩ := I.list hqu
    have m1 : its.toArray.size = xs.length := by simpa using rv.length.symm
    have m2 : its2.toArray.size = ys.length := by simpa using rv2.length.symm
    have m3 : its3.toArray.size = us.length := by simpa using rv3.length.symm
    have hh : X.A.in1.handled = none := I.ok.hd hc
    exact wpAny_pyNext_zipD3_end S (Draws.list hh i1 a n1 its.toArray) (Draws.list hh i2 b n2 its2.toArray) (Draws.list hh i3 c n3 its3.toArray) hz hTI hTO ⟨h1, p.isList⟩ ⟨h2, p2.isList⟩ ⟨h3, p3.isList⟩ (by omega) (by omega) (by omega) (by omega)
      fun h' tk hk => ⟨rfl, I.turnedL (t' := tk) (ch := [z, TI, TO, i1, i2, i3]) (fun d o hb q => hk d o (fun q' => hb (by simp [q'])) (fun q' => hb (by simp [q'])) (fun q' => hb (by simp [q'])) (fun q' => hb (by simp [q'])) (fun q' => hb (by simp [q'])) q) hf⟩
  self := fun A i s Q E st h => wpAny_pyIter_zip st.1 h
def iZip3 (K : PySem.W.Frag) (ta : TA) : TI := fun σ H R => ta σ H fun vs H1 => ∃ a b c xs ys us, vs = [.ref a, .ref b, .ref c] ∧ SqL K H1 a xs ∧ SqL K H1 b ys ∧ SqL K H1 c us ∧ R (Itz3 K a b c) H1
theorem pi_zip3 {X : Cx} {e e2 e3 : Expr} {ta : TA} {p pos tpos : Pos} {elts : List Expr} {kk : Nat} (hg : Gl X "zip") (hm : X.mg "zip" = none) (ha : PA X [e, e2, e3] ta)
    (hs : starEach [e, e2, e3] X.env = (false, eval e X.env) :: starEach [e2, e3] X.env := by rfl) (hpl : (backTo pos (starEach [e2, e3] X.env)).any (·.1) = false := by rfl) :
    PI X (.Tuple elts kk tpos) (.Call (.Name "zip" p) [e, e2, e3] [] pos) (iZip3 X.K ta) := by
  refine ⟨fun pins s σ H R I h => ?_⟩
  refine Call_ (ld_blt I hg hm PyProof.Rows.boot_zip (PyProof.Rows.callWith_type1 (thn (ha.run pos pins s σ H _ I h) fun us s1 ⟨vs, H1, I1, r1, q1⟩ => ?_) hs hpl))
  obtain ⟨a, b, c, xs, ys, zs, ex, hqx, hqy, hqz, q⟩ := q1
  subst ex
  cases r1 with
  | cons r rr =>
    cases rr with
    | cons r' rr =>
      cases rr with
      | cons r'' rr =>
        cases rr
        cases r
        cases r'
        cases r''
        obtain ⟨its, rv, p1, _⟩ := I1.list hqx
        obtain ⟨its2, rv2, p2, _⟩ := I1.list hqy
        obtain ⟨its3, rv3, p3, _⟩ := I1.list hqz
        have la : a < s1.heap.objs.size := p1.lt
        have lb : b < s1.heap.objs.size := p2.lt
        have lc : c < s1.heap.objs.size := p3.lt
        refine zip_begins3 (begins_list a its.toArray) (begins_list b its2.toArray) (begins_list c its3.toArray) p1.isList p2.isList p3.isList fun h' hz hTI hTO h1 h2 h3 hsz hk => wpAny_pyIter_zip hz ?_
        have I2 : Inv X pins σ H1 { s1 with heap := h' } := I1.kept (t' := s1.toks) hk
        have one : ∀ (d N : Addr), d < N → ∀ x ∈ [d], x < N := fun d N hd x hx => by rw [List.mem_singleton.mp hx]; exact hd
        refine ⟨s1.heap.objs.size + 5, [s1.heap.objs.size + 5, s1.heap.objs.size + 3, s1.heap.objs.size + 4, s1.heap.objs.size, s1.heap.objs.size + 1, s1.heap.objs.size + 2], _, _, H1, rfl, I2,
          turn_zip3 (zip_sep3 (fp1 := [a]) (fp2 := [b]) (fp3 := [c]) (one _ _ la) (one _ _ lb) (one _ _ lc)) (Nat.ne_of_lt la) (Nat.ne_of_lt (Nat.lt_succ_of_lt lb)) (Nat.ne_of_lt (Nat.lt_succ_of_lt (Nat.lt_succ_of_lt lc))), ⟨hz, hTI, ⟨_, _, _, hTO⟩, ⟨_, h1, rfl, rfl⟩, ⟨_, h2, rfl, rfl⟩, ⟨_, h3, rfl, rfl⟩⟩, fun d hdm => ?_, q⟩
        have e' : d = s1.heap.objs.size + 5 ∨ d = s1.heap.objs.size + 3 ∨ d = s1.heap.objs.size + 4 ∨ d = s1.heap.objs.size ∨ d = s1.heap.objs.size + 1 ∨ d = s1.heap.objs.size + 2 := by simpa using hdm
        have hle : s1.heap.objs.size ≤ d := by
          rcases e' with z | z | z | z | z | z
          · rw [z]; exact Nat.le_add_right _ _
          · rw [z]; exact Nat.le_add_right _ _
          · rw [z]; exact Nat.le_add_right _ _
          · rw [z]; exact Nat.le_refl _
          · rw [z]; exact Nat.le_add_right _ _
          · rw [z]; exact Nat.le_add_right _ _
        exact I1.fpOk hle (I1.hok.fresh hle)
/-! ### a list and a tuple -/
def ItzM (K : PySem.W.Frag) (a b : Addr) : It :=
  ⟨fun i H => ∃ (xs ys : List V) (x y : V), SqL K H a xs ∧ SqT K H b ys ∧ xs[i]? = some x ∧ ys[i]? = some y,
    fun i H v H' => ∃ T x y, v = .ref T ∧ H T = none ∧ H' = upd H T (.tup [x, y]) ∧ (∀ xs, SqL K H a xs → xs[i]? = some x) ∧ ∀ ys, SqT K H b ys → ys[i]? = some y,
    fun i H => ∃ xs ys : List V, SqL K H a xs ∧ SqT K H b ys ∧ i ≤ xs.length ∧ i ≤ ys.length ∧ (i = xs.length ∨ i = ys.length)⟩
theorem turn_zipM {P : Program} {w : World} {K : PySem.W.Frag} {elts : List Expr} {kk : Nat} {tpos : Pos} {a b z TI TO i1 i2 : Addr} (S : ZipSep2 z TI TO i1 i2 [i1, a] [i2, b]) (n1 : a ≠ i1) (n2 : b ≠ i2) :
    Turn P w K (.Tuple elts kk tpos) (ItzM K a b) [z, TI, TO, i1, i2] z (fun i h => IsZip h z TI TO .none ∧ IsTupOf2 h TI (.ref i1) (.ref i2) ∧ (∃ x y, IsTupOf2 h TO x y) ∧ h.IsListIter i1 a i ∧ h.IsTupleIter i2 b i) where
  mem := by simp
  obj := fun i h st d hd => by
    obtain ⟨hz, hTI, ⟨x, y, hTO⟩, ⟨o1, e1, _, d1⟩, ⟨o2, e2, _, d2⟩⟩ := st
    have e' : d = z ∨ d = TI ∨ d = TO ∨ d = i1 ∨ d = i2 := by simpa using hd
    rcases e' with q | q | q | q | q
    · rw [q]; exact ⟨_, hz, fun v q => nomatch q⟩
    · rw [q]; exact ⟨_, hTI, fun v q => nomatch q⟩
    · rw [q]; exact ⟨_, hTO, fun v q => nomatch q⟩
    · rw [q]; exact ⟨o1, e1, fun v q => by rw [d1] at q; cases q⟩
    · rw [q]; exact ⟨o2, e2, fun v q => by rw [d2] at q; cases q⟩
  keep := fun i h h' st k => by
    obtain ⟨hz, hTI, ⟨x, y, hTO⟩, h1, h2⟩ := st
    exact ⟨k z (by simp) _ hz, k TI (by simp) _ hTI, ⟨x, y, k TO (by simp) _ hTO⟩, h1.at fun o q => k i1 (by simp) o q, h2.at fun o q => k i2 (by simp) o q⟩
  item := by
    intro X hP hw hK hc i pins s σ H E I hf st hg
    subst hP hw hK
    obtain ⟨hz, hTI, ⟨x0, y0, hTO⟩, h1, h2⟩ := st
    obtain ⟨xs, ys, x, y, hqx, hqy, hx, hy⟩ := hg
    obtain ⟨its, rv, p, _⟩ := I.list hqx
    obtain ⟨its2, rv2, p2, _⟩ := I.tuple hqy
    obtain ⟨v1, hv1, ru1⟩ := rv.get hx
    obtain ⟨v2, hv2, ru2⟩ := rv2.get hy
    have hzl : z < s.heap.objs.size := Heap.lt_size hz
    have hh : X.A.in1.handled = none := I.ok.hd hc
    have b1 : i < its.toArray.size := by simpa using (List.getElem?_eq_some_iff.mp hv1).1
    have b2 : i < its2.toArray.size := by simpa using (List.getElem?_eq_some_iff.mp hv2).1
    refine wpAny_pyNext_zipD2_item S (Draws.list hh i1 a n1 its.toArray) (Draws.tuple hh i2 b n2 its2.toArray) hz hTI hTO ⟨h1, p.isList⟩ ⟨h2, p2⟩ b1 b2 fun y1 y2 h' tk q1 q2 z' TO' h1' h2' hT hsz hk => ?_
    have e1 : y1 = v1 := by
      have : its[i]? = some y1 := by simpa using q1
      rw [hv1] at this; exact (Option.some.inj this).symm
    have e2 : y2 = v2 := by
      have : its2[i]? = some y2 := by simpa using q2
      rw [hv2] at this; exact (Option.some.inj this).symm
    subst e1 e2
    refine ⟨_, rfl, wpAny_letOwnedTupleGo_zip (s := { s with heap := h', toks := tk }) z' fun h'' z'' sb => ?_⟩
    replace sb : Heap.SameBut z h' h'' := sb
    have hT2 : h''.get? s.heap.objs.size = some { cls := .type "tuple", data := .seq #[y1, y2] } := (sb.2 _ (Nat.ne_of_gt hzl)).trans hT
    have new : ObjOk X.prog X.w (upd H s.heap.objs.size (.tup [x, y])) h'' s.heap.objs.size (.tup [x, y]) :=
      ⟨by show 2 ≤ sizeLine; decide, [y1, y2], .cons ru1 (.cons ru2 .nil), ⟨_, hT2, rfl, _, rfl⟩⟩
    have I1 : Inv X pins σ (upd H s.heap.objs.size (.tup [x, y])) { s with heap := h'', toks := tk } :=
      I.turnedNew (ch := [z, TI, TO, i1, i2]) (fun d o hb q => (sb.2 d (fun q' => hb (by simp [q']))).trans (hk d o (fun q' => hb (by simp [q'])) (fun q' => hb (by simp [q'])) (fun q' => hb (by simp [q'])) (fun q' => hb (by simp [q'])) q)) hf (Nat.le_refl _) new
    refine ⟨.ref s.heap.objs.size, _, I1, rfl, ⟨_, x, y, rfl, I.hok.fresh (Nat.le_refl _), rfl, fun l hl => by rw [I.list_inj hl hqx]; exact hx, fun l hl => by rw [I.tuple_inj hl hqy]; exact hy⟩,
      ⟨z'', ?_, ⟨y1, y2, ?_⟩, ?_, ?_⟩, fun d hdm => ?_⟩
    · exact (sb.2 _ S.TIz).trans (hk _ _ S.TIz S.TITO S.TIi1 S.TIi2 hTI)
    · exact (sb.2 _ S.TOz).trans TO'
    · exact h1'.1.at fun o q => (sb.2 _ S.zi1.symm).trans q
    · exact h2'.1.at fun o q => (sb.2 _ S.zi2.symm).trans q
    · have hlt : d < s.heap.objs.size := by
        have e' : d = z ∨ d = TI ∨ d = TO ∨ d = i1 ∨ d = i2 := by simpa using hdm
        rcases e' with q | q | q | q | q
        · rw [q]; exact hzl
        · rw [q]; exact Heap.lt_size hTI
        · rw [q]; exact Heap.lt_size hTO
        · rw [q]; obtain ⟨_, e1, _⟩ := h1; exact Heap.lt_size e1
        · rw [q]; obtain ⟨_, e2, _⟩ := h2; exact Heap.lt_size e2
      rw [upd_ne (Nat.ne_of_lt hlt)]
      exact (hf d hdm).1
  done := by
    intro X hP hw hK hc i pins s σ H E I hf st hg
    subst hP hw hK
    obtain ⟨hz, hTI, ⟨x0, y0, hTO⟩, h1, h2⟩ := st
    obtain ⟨xs, ys, hqx, hqy, l1, l2, hend⟩ := hg
    obtain ⟨its, rv, p, _⟩ := I.list hqx
    obtain ⟨its2, rv2, p2, _⟩ := I.tuple hqy
    have m1 : its.toArray.size = xs.length := by simpa using rv.length.symm
    have m2 : its2.toArray.size = ys.length := by simpa using rv2.length.symm
    have hh : X.A.in1.handled = none := I.ok.hd hc
    exact wpAny_pyNext_zipD2_end S (Draws.list hh i1 a n1 its.toArray) (Draws.tuple hh i2 b n2 its2.toArray) hz hTI hTO ⟨h1, p.isList⟩ ⟨h2, p2⟩ (by omega) (by omega) (by omega)
      fun h' tk hk => ⟨rfl, I.turnedL (t' := tk) (ch := [z, TI, TO, i1, i2]) (fun d o hb q => hk d o (fun q' => hb (by simp [q'])) (fun q' => hb (by simp [q'])) (fun q' => hb (by simp [q'])) (fun q' => hb (by simp [q'])) q) hf⟩
  self := fun A i s Q E st h => wpAny_pyIter_zip st.1 h
def iZipM (K : PySem.W.Frag) (ta : TA) : TI := fun σ H R => ta σ H fun vs H1 => ∃ a b xs ys, vs = [.ref a, .ref b] ∧ SqL K H1 a xs ∧ SqT K H1 b ys ∧ R (ItzM K a b) H1
theorem pi_zipM {X : Cx} {e e2 : Expr} {ta : TA} {p pos tpos : Pos} {elts : List Expr} {kk : Nat} (hg : Gl X "zip") (hm : X.mg "zip" = none) (ha : PA X [e, e2] ta)
    (hs : starEach [e, e2] X.env = (false, eval e X.env) :: starEach [e2] X.env := by rfl) (hpl : (backTo pos (starEach [e2] X.env)).any (·.1) = false := by rfl) :
    PI X (.Tuple elts kk tpos) (.Call (.Name "zip" p) [e, e2] [] pos) (iZipM X.K ta) := by
  refine ⟨fun pins s σ H R I h => ?_⟩
  refine Call_ (ld_blt I hg hm PyProof.Rows.boot_zip (PyProof.Rows.callWith_type1 (thn (ha.run pos pins s σ H _ I h) fun us s1 ⟨vs, H1, I1, r1, q1⟩ => ?_) hs hpl))
  obtain ⟨a, b, xs, ys, ex, hqx, hqy, q⟩ := q1
  subst ex
  cases r1 with
  | cons r rr =>
    cases rr with
    | cons r' rr =>
      cases rr
      cases r
      cases r'
      obtain ⟨its, rv, p1, _⟩ := I1.list hqx
      obtain ⟨its2, rv2, p2, _⟩ := I1.tuple hqy
      obtain ⟨o2, ho2, _⟩ := id p2
      have la : a < s1.heap.objs.size := p1.lt
      have lb : b < s1.heap.objs.size := Heap.lt_size ho2
      refine zip_begins2 (begins_list a its.toArray) (begins_tuple b its2.toArray) p1.isList p2 fun h' hz hTI hTO h1 h2 hsz hk => wpAny_pyIter_zip hz ?_
      have I2 : Inv X pins σ H1 { s1 with heap := h' } := I1.kept (t' := s1.toks) hk
      have one : ∀ (d N : Addr), d < N → ∀ x ∈ [d], x < N := fun d N hd x hx => by rw [List.mem_singleton.mp hx]; exact hd
      refine ⟨s1.heap.objs.size + 4, [s1.heap.objs.size + 4, s1.heap.objs.size + 2, s1.heap.objs.size + 3, s1.heap.objs.size, s1.heap.objs.size + 1], _, _, H1, rfl, I2,
        turn_zipM (zip_sep2 (fp1 := [a]) (fp2 := [b]) (one _ _ la) (one _ _ lb)) (Nat.ne_of_lt la) (Nat.ne_of_lt (Nat.lt_succ_of_lt lb)), ⟨hz, hTI, ⟨_, _, hTO⟩, ⟨_, h1, rfl, rfl⟩, ⟨_, h2, rfl, rfl⟩⟩, fun d hdm => ?_, q⟩
      have e' : d = s1.heap.objs.size + 4 ∨ d = s1.heap.objs.size + 2 ∨ d = s1.heap.objs.size + 3 ∨ d = s1.heap.objs.size ∨ d = s1.heap.objs.size + 1 := by simpa using hdm
      have hle : s1.heap.objs.size ≤ d := by
        rcases e' with z | z | z | z | z
        · rw [z]; exact Nat.le_add_right _ _
        · rw [z]; exact Nat.le_add_right _ _
        · rw [z]; exact Nat.le_add_right _ _
        · rw [z]; exact Nat.le_refl _
        · rw [z]; exact Nat.le_add_right _ _
      exact I1.fpOk hle (I1.hok.fresh hle)
end Lm

namespace Lm
open PySem PySem.Spec PyProof.Rows L2
/-! ### a star among targets: *a, b = xs; a, *b = xs -/
theorem walks_shift {prog : Program} {w : World} {A : Around} {I : Addr} {fp wr : List Addr} {G : Array GenState → Array GenState → Prop} {n : Nat} {Pi : Nat → Value → Prop} {St : Nat → Shared → Prop} (W : WalksS prog w A I fp wr G n Pi St) (k : Nat) (hk : k ≤ n) :
    WalksS prog w A I fp wr G (n - k) (fun i => Pi (k + i)) (fun i => St (k + i)) := by
  have e : k + (n - k) = n := by omega
  exact ⟨W.sub, W.grefl, W.gtrans, fun i => W.frame (k + i), fun i s Q E hi st hQ => W.item (k + i) s Q E (by omega) st hQ, fun s Q E st hQ => W.done s Q E (e ▸ st) hQ, fun i => W.self (k + i)⟩
section
variable {prog : Program} {w : World} {A : Around} {E : Value → Shared → Prop} {s : Shared}
theorem items_of_drop {items : Array Value} {i : Nat} {acc : Array Value} (hi : i ≤ items.size) (h : ItemsOf (fun k v => items[i + k]? = some v) acc (items.size - i)) : acc.toList = items.toList.drop i := by
  obtain ⟨hs, ha⟩ := h
  refine List.ext_getElem? fun k => ?_
  rw [List.getElem?_drop]
  rcases Nat.lt_or_ge k acc.size with q | q
  · have h1 : acc[k]? = some acc[k] := by simp [q]
    have h2 := ha k _ h1
    rw [Array.getElem?_toList, Array.getElem?_toList, h1, h2]
  · rw [List.getElem?_eq_none (by simpa using q), List.getElem?_eq_none (by rw [Array.length_toList]; omega)]
theorem unpackItems_star {t : Addr} {items : Array Value} {n i : Nat} {Q : List Value → Shared → Prop} (hh : A.handled = none) (ht : s.heap.IsList t items) (hz : items.size ≤ sizeLine) (hi : i < n) (hn : n ≤ items.size + 1)
    (hQ : ∀ (h1 : Heap) (tk : Nat), (∀ b o, s.heap.get? b = some o → h1.get? b = some o) →
      Q (items.toList.take i ++ [.ref h1.objs.size] ++ (items.toList.drop i).drop (items.size - (n - 1))) { s with heap := h1.push { cls := .type "list", data := .seq ((items.toList.drop i).take (items.size - (n - 1))).toArray }, toks := tk }) : wpAny (model prog w) A (unpackItems (.ref t) n (some i)) Q E s := by
  have hlt : t ≠ s.heap.objs.size := by obtain ⟨o, ho, _⟩ := ht; exact Nat.ne_of_lt (Heap.lt_size ho)
  have hta : t < s.heap.objs.size := by obtain ⟨o, ho, _⟩ := ht; exact Heap.lt_size ho
  unfold unpackItems
  refine wpAny_bind ?_
  unfold notIterableAtAll
  refine wpAny_bind (wpAny_specialOf ht.typeIs PySem.F.slot_list_iter.lookup ?_)
  refine wpAny_pure ?_
  simp only [Bool.false_eq_true, if_false]
  refine wpAny_bind (wpAny_holding (wpAny_pyIter_list ht ?_))
  refine wpAny_bind (wpAny_holding (draw_list hlt i 0 _ _ ⟨_, Heap.get?_push_size _ rfl, rfl, rfl⟩ (isList_push ht) (by omega) fun h₁ hit₁ hs₁ => ?_))
  have hfst : List.take i (List.drop 0 items.toList) = items.toList.take i := by rw [List.drop_zero]
  rw [hfst]
  rw [if_neg (by rw [List.length_take, Array.length_toList]; omega)]
  have ht₁ : h₁.IsList t items := isList_ext (isList_push ht) hs₁.extBut hlt
  have hit : h₁.IsListIter s.heap.objs.size t (i + 0) := by
    have e : 0 + i = i + 0 := by omega
    rw [← e]; exact hit₁
  have hsz : s.heap.objs.size < h₁.objs.size := by obtain ⟨o, ho, _⟩ := hit; exact Heap.lt_size ho
  refine wpAny_bind (wpAny_holding (wpAny_collect_iter (T := "list_iterator") (.inr (.inr (.inl rfl))) (walks_shift (Walks.list (prog := prog) (w := w) (A := A.in1) (by simpa using hh) s.heap.objs.size t hlt items).toS i (by omega)) (fun k s2 h => ?_) ⟨hit, ht₁⟩ (fun b hb => ?_) (by simp) (fun s2 acc hm hacc => ?_) (by omega)))
  · obtain ⟨⟨o, ho, hc, _⟩, _⟩ := h
    exact ⟨o, ho, hc⟩
  · simp only [List.mem_cons, List.not_mem_nil, or_false] at hb
    rcases hb with rfl | rfl
    · exact hsz
    · exact Nat.lt_trans hta hsz
  · have hrest := items_of_drop (by omega) hacc
    rw [hrest]
    rw [if_neg (by rw [List.length_drop, Array.length_toList]; omega)]
    have hmid : (List.drop i items.toList).length - (n - 1 - i) = items.size - (n - 1) := by rw [List.length_drop, Array.length_toList]; omega
    rw [hmid]
    unfold newList
    refine wpAny_bind (wpAny_newObj_type ?_ (by show _ ≤ sizeLine; simp; omega))
    refine wpAny_pure ?_
    have old : ∀ b o, s.heap.get? b = some o → s2.heap.get? b = some o := fun b o e => by
      have hb : b ≠ s.heap.objs.size := Nat.ne_of_lt (Heap.lt_size e)
      exact hm.heap b o (by simpa using hb) (hs₁.extBut b o hb (Heap.get?_push_of_some _ e))
    have e2 : ({ s2 with heap := s2.heap.push { cls := .type "list", data := .seq ((items.toList.drop i).take (items.size - (n - 1))).toArray } } : Shared) = { s with heap := s2.heap.push { cls := .type "list", data := .seq ((items.toList.drop i).take (items.size - (n - 1))).toArray }, toks := s2.toks } := by
      have g1 := hm.gens
      have g2 := hm.drawn
      have g3 := hm.os
      cases s2
      cases s
      simp at g1 g2 g3
      simp [g1, g2, g3]
    rw [e2]
    exact hQ s2.heap s2.toks old
end
/-- targets of which the one at i has a star -/
def gStar (K : PySem.W.Frag) (n i : Nat) (t : TGs) : TG := fun v σ H Q => ∃ a xs, v = .ref a ∧ SqL K H a xs ∧ n ≤ xs.length + 1 ∧ ∀ L, H L = none → t (xs.take i ++ [.ref L] ++ (xs.drop i).drop (xs.length - (n - 1))) σ (upd H L (.lst ((xs.drop i).take (xs.length - (n - 1))))) Q
theorem pgs_star {X : Cx} {e : Expr} {p : Pos} {es : List Expr} {t : TG} {u : TGs} (h1 : PG X e t) (h2 : PGs X es u)
    (hs : (assignEach (.Starred e p :: es) X.env).map (·.2) = assign e X.env :: (assignEach es X.env).map (·.2) := by rfl) : PGs X (.Starred e p :: es) (gCons t u) := by
  refine ⟨fun pins s σ H vs us Q I r h => ?_⟩
  obtain ⟨v, vr, e1, h⟩ := h
  subst e1
  cases r with
  | cons r rr =>
    rw [hs]
    refine assignInOrder_cons (thn (h1.run pins s σ H _ _ _ I r h) fun _ s1 ⟨σ1, H1, I1, q1⟩ => ?_)
    exact h2.run pins s1 σ1 H1 _ _ Q I1 rr q1
theorem pg_star {X : Cx} {es : List Expr} {k : Nat} {pos : Pos} {t : TGs} {n i : Nat} (hc : X.calm = true) (h : PGs X es t) (hi : i < n)
    (hn : (assignEach es X.env).length = n := by rfl) (hst : (assignEach es X.env).findIdx? (·.1) = some i := by rfl) : PG X (.Tuple es k pos) (gStar X.K n i t) := by
  refine ⟨fun pins s σ H v u Q I r hw => ?_⟩
  obtain ⟨a, xs, e1, hq, hl, hw⟩ := hw
  subst e1
  cases r
  obtain ⟨its, rv, ⟨o, m, e, hcl, _, d⟩, hz⟩ := I.list hq
  have hlen : its.length = xs.length := rv.length.symm
  rw [PyProof.Rows.assign_Tuple]
  refine wpAny_bind (wpAny_standAt ?_)
  unfold unpack
  have hln : (assignEach es X.env).length = n := hn
  rw [hln, hst]
  refine wpAny_bind (wpAny_holding (unpackItems_star (items := its.toArray) (I.ok.hd hc) ⟨o, e, hcl, m, d⟩ (by rw [List.size_toArray, hlen]; exact hz) hi (by simp; omega) fun h1 tk old => ?_))
  have hsz : its.toArray.size = xs.length := by simp [hlen]
  rw [hsz]
  have I0 : Inv X pins σ H { s with heap := h1, toks := tk } := I.kept (t' := tk) old
  have I1 : Inv X pins σ (upd H h1.objs.size (.lst ((xs.drop i).take (xs.length - (n - 1))))) { s with heap := h1.push { cls := .type "list", data := .seq ((its.toArray.toList.drop i).take (xs.length - (n - 1))).toArray }, toks := tk } := by
    refine I0.laid (t' := tk) (fun b o e => Heap.get?_push_of_some _ e) (Nat.le_refl _) ?_
    refine ⟨?_, _, 0, (rv.drop i).take (xs.length - (n - 1)), Heap.get?_push_size _ rfl⟩
    have : ((xs.drop i).take (xs.length - (n - 1))).length ≤ its.length := by rw [List.length_take, List.length_drop]; omega
    exact Nat.le_trans this (by rw [hlen]; exact hz)
  refine h.run pins _ σ _ _ _ Q I1 ?_ (hw h1.objs.size (I0.hok.fresh (Nat.le_refl _)))
  have hr : RelV (.ref h1.objs.size) (.ref h1.objs.size) := rfl
  exact Vals.append (Vals.append (rv.take i) (.cons hr .nil)) ((rv.drop i).drop _)
end Lm

namespace Lm
open PySem PySem.Spec PyProof.Rows L2
/-! ### for i, x in enumerate(xs, start=k) -/
def IteS (K : PySem.W.Frag) (a : Addr) (k0 : Int) : It :=
  ⟨fun i H => ∃ (xs : List V) (x : V), SqL K H a xs ∧ xs[i]? = some x, fun i H v H' => ∃ T x, v = .ref T ∧ H T = none ∧ H' = upd H T (.tup [.int (k0 + (i : Nat)), x]) ∧ ∀ xs, SqL K H a xs → xs[i]? = some x, fun i H => ∃ xs : List V, SqL K H a xs ∧ i = xs.length⟩
theorem turn_enumS {P : Program} {w : World} {K : PySem.W.Frag} {elts : List Expr} {kk : Nat} {tpos : Pos} (k0 : Int) (a e it : Addr) (hai : a ≠ it) (hae : a ≠ e) (hei : e ≠ it) :
    Turn P w K (.Tuple elts kk tpos) (IteS K a k0) [e, it] e (fun i h => (∃ old, IsEnum h e it (k0 + (i : Nat)) old) ∧ h.IsListIter it a i) where
  mem := by simp
  obj := fun i h st d hd => by
    obtain ⟨⟨old, he⟩, ⟨o, ho, hc, hdt⟩⟩ := st
    rcases (by simpa using hd : d = e ∨ d = it) with q | q
    · rw [q]; exact ⟨_, he, fun v z => nomatch z⟩
    · rw [q]; exact ⟨o, ho, fun v z => by rw [hdt] at z; cases z⟩
  keep := fun i h h' st k => by
    obtain ⟨⟨old, he⟩, hi⟩ := st
    exact ⟨⟨old, k e (by simp) _ he⟩, hi.at fun o q => k it (by simp) o q⟩
  item := by
    intro X hP hw hK hc i pins s σ H E I hf st hg
    subst hP hw hK
    obtain ⟨⟨old, he⟩, hit⟩ := st
    obtain ⟨xs, x, hq, hx⟩ := hg
    obtain ⟨its, rv, p, _⟩ := I.list hq
    obtain ⟨u, hu, ru⟩ := rv.get hx
    have hes : e < s.heap.objs.size := Heap.lt_size he
    have hts : it < s.heap.objs.size := by obtain ⟨_, q, _⟩ := id hit; exact Heap.lt_size q
    have hh : X.A.in1.handled = none := I.ok.hd hc
    have hlt : i < its.toArray.size := by simpa using (List.getElem?_eq_some_iff.mp hu).1
    refine wpAny_pyNext_enum_itemC (Draws.list hh it a hai its.toArray) he ⟨hit, p.isList⟩ hlt hei (fun z => (List.mem_cons.mp z).elim hei fun z => hae (List.mem_singleton.mp z).symm) fun y h' tk hy ho hst' hT hsz hk => ?_
    have ey : y = u := by
      have hy' : its[i]? = some y := by simpa using hy
      rw [hu] at hy'
      exact (Option.some.inj hy').symm
    subst ey
    refine ⟨_, rfl, wpAny_letOwnedTupleGo_enum (s := { s with heap := h', toks := tk + 1 }) ho fun h'' he' sb => ?_⟩
    have hT2 : h''.get? s.heap.objs.size = some { cls := .type "tuple", data := .seq #[.int (k0 + (i : Nat)) tk, y] } := (sb.2 _ (Nat.ne_of_gt hes)).trans hT
    have fresh : ObjOk X.prog X.w (upd H s.heap.objs.size (.tup [.int (k0 + (i : Nat)), x])) h'' s.heap.objs.size (.tup [.int (k0 + (i : Nat)), x]) :=
      ⟨by show 2 ≤ sizeLine; decide, [.int (k0 + (i : Nat)) tk, y], .cons ⟨_, rfl⟩ (.cons ru .nil), ⟨_, hT2, rfl, _, rfl⟩⟩
    have I1 : Inv X pins σ (upd H s.heap.objs.size (.tup [.int (k0 + (i : Nat)), x])) { s with heap := h'', toks := tk + 1 } :=
      I.turnedNew (ch := [e, it]) (fun d o hb q => (sb.2 d (fun z => hb (by simp [z]))).trans (hk d o (fun z => hb (by simp [z])) (fun z => hb (by simp [z])) q)) hf (Nat.le_refl _) fresh
    refine ⟨.ref s.heap.objs.size, _, I1, rfl, ⟨_, x, rfl, I.hok.fresh (Nat.le_refl _), rfl, fun l hl => by rw [I.list_inj hl hq]; exact hx⟩, ⟨⟨y, ?_⟩, hst'.1.at fun o q => (sb.2 it hei.symm).trans q⟩, fun d hd => ?_⟩
    · have e1 : k0 + ((i + 1 : Nat) : Int) = k0 + (i : Int) + 1 := by omega
      rw [e1]
      exact he'
    · have hlt' : d < s.heap.objs.size := by
        rcases (by simpa using hd : d = e ∨ d = it) with q | q
        · rw [q]; exact hes
        · rw [q]; exact hts
      rw [upd_ne (Nat.ne_of_lt hlt')]
      exact (hf d hd).1
  done := by
    intro X hP hw hK hc i pins s σ H E I hf st hg
    subst hP hw hK
    obtain ⟨⟨old, he⟩, hit⟩ := st
    obtain ⟨xs, hq, hx⟩ := hg
    obtain ⟨its, rv, p, _⟩ := I.list hq
    obtain ⟨f0, f1, f2, f3, f4, f5⟩ := hf it (by simp)
    have hh : X.A.in1.handled = none := I.ok.hd hc
    have hsz : i = its.toArray.size := by rw [hx, List.size_toArray]; exact rv.length
    subst hsz
    exact wpAny_pyNext_enum_endD (Draws.list hh it a hai its.toArray) he ⟨hit, p.isList⟩ fun h' eb => ⟨rfl, I.turned (t' := s.toks) (fun b o hb q => eb b o hb q) f0 f1 f3 f4 f5⟩
  self := fun A i s Q E st h => let ⟨⟨_, he⟩, _⟩ := st; wpAny_pyIter_enum he h
theorem callWith_typeKw {M : Model} {A : Around} {E : Value → Shared → Prop} {s : Shared} {pos : Pos} {T : String} {args : List (Bool × Sem Value)} {kws : List (Option Str × Sem Value)} {Q : Value → Shared → Prop} (hplain : (args.any (·.1) || kws.any (·.1.isNone)) = false)
    (h : wpAny M A (evalArgs (.type T) true args kws) (fun a s₁ => wpAny M A (call (.type T) a.pos a.kw) Q E s₁) E s) : wpAny M A (callWith pos (.type T) [] args kws) Q E s := by
  unfold callWith
  refine wpAny_bind (wpAny_holding (wpAny_mono h (fun a s₁ h₁ => wpAny_bind (wpAny_standAt ?_)) fun _ _ x => x))
  simp only [hplain]
  refine wpAny_bind (wpAny_pure ?_)
  exact wpAny_bind (wpAny_mono h₁ (fun r s₂ hr => wpAny_bind (wpAny_holding (wpAny_point (wpAny_pure hr)))) fun _ _ x => x)
def iEnumS (K : PySem.W.Frag) (ta tk : TA) : TI := fun σ H R => ta σ H fun vs H1 => tk σ H1 fun zs H2 => ∃ a xs k0, vs = [.ref a] ∧ zs = [.int k0] ∧ 0 ≤ k0 ∧ k0 < 1000 ∧ SqL K H2 a xs ∧ R (IteS K a k0) H2
theorem pi_enumS {X : Cx} {e : Expr} {ta tk : TA} {p pos tpos : Pos} {elts : List Expr} {kk : Nat} {kws : List Keyword} (hg : Gl X "enumerate") (hm : X.mg "enumerate" = none) (ha : PA X [e] ta) (hkw : PK X kws tk) (hs : starEach [e] X.env = (false, eval e X.env) :: starEach [] X.env := by rfl)
    (hall : (backToKw pos (keywordEach kws X.env)).all (·.1.isSome) = true := by rfl) (hks : (backToKw pos (keywordEach kws X.env)).filterMap (·.1) = [Str.ofString "start"] := by rfl)
    (hpl : ((backTo pos (starEach [e] X.env)).any (·.1) || (backToKw pos (keywordEach kws X.env)).any (·.1.isNone)) = false := by rfl) :
    PI X (.Tuple elts kk tpos) (.Call (.Name "enumerate" p) [e] kws pos) (iEnumS X.K ta tk) := by
  refine ⟨fun pins s σ H R I h => ?_⟩
  refine wpAny_Call_Name_kw (ld_blt I hg hm boot_enumerate (callWith_typeKw hpl (evalArgs_kw2 hall ?_ hs)))
  refine thn (ha.run pos pins s σ H _ I h) fun us s1 ⟨vs, H1, I1, r1, q1⟩ => ?_
  refine thn (hkw.run pos pins s1 σ H1 _ I1 q1) fun ws s2 ⟨zs, H2, I2, rz, q2⟩ => ?_
  obtain ⟨a, xs, k0, ex, ez, hk0, hk1, hq, q⟩ := q2
  subst ex ez
  rw [hks]
  cases r1 with
  | cons r rr =>
    cases rr
    cases r
    cases rz with
    | cons z zr =>
      cases zr
      obtain ⟨tk0, rfl⟩ := z
      obtain ⟨its, rv, p', _⟩ := I2.list hq
      have la : a < s2.heap.objs.size := p'.lt
      refine enum_begins_start (begins_list a its.toArray) p'.isList (by omega) (by omega) fun h' he hit hsz hk => wpAny_pyIter_enum he ?_
      have I3 : Inv X pins σ H2 { s2 with heap := h' } := I2.kept (t' := s2.toks) hk
      refine ⟨s2.heap.objs.size + 1, [s2.heap.objs.size + 1, s2.heap.objs.size], _, _, H2, rfl, I3, turn_enumS k0 a (s2.heap.objs.size + 1) s2.heap.objs.size (Nat.ne_of_lt la) (Nat.ne_of_lt (Nat.lt_succ_of_lt la)) (Nat.succ_ne_self _), ⟨⟨.none, ?_⟩, ⟨_, hit, rfl, rfl⟩⟩, fun b hb => ?_, q⟩
      · have e0 : k0 + ((0 : Nat) : Int) = k0 := by omega
        rw [e0]
        exact he
      · have hle : s2.heap.objs.size ≤ b := by
          rcases (by simpa using hb : b = s2.heap.objs.size + 1 ∨ b = s2.heap.objs.size) with z | z
          · rw [z]; exact Nat.le_add_right _ _
          · rw [z]; exact Nat.le_refl _
        exact I2.fpOk hle (I2.hok.fresh hle)
theorem walk_enumS {K : PySem.W.Frag} {a : Addr} {xs : List V} {k0 : Int} : Walk (IteS K a k0) xs.length (fun H => SqL K H a xs) (YPair (fun i => some (.int (k0 + (i : Nat)))) (fun i => xs[i]?)) := by
  refine ⟨fun i _ hi q => ⟨xs, xs[i], q, by simp [hi]⟩, fun _ q => ⟨xs, q, rfl⟩, fun i H v H' _ q y => ?_⟩
  obtain ⟨T, x, h1, h2, h3, h4⟩ := y
  exact ⟨T, .int (k0 + (i : Nat)), x, h1, h2, h3, rfl, h4 xs q⟩
end Lm

namespace Lm
open PySem PySem.Spec PyProof.Rows L2
/-- text * int, for a number from 2 on -/
def repS (x : Str) (n : Nat) : Str := ⟨(List.replicate n x.cps).foldl (· ++ ·) #[]⟩
def rMulS : R2 := fun x y H Q => ∃ (a : Str) (n : Nat), x = .str a ∧ y = .int (n : Int) ∧ 2 ≤ n ∧ n ≤ 1000 ∧ 0 < a.length ∧ a.length ≤ 1000 ∧ Q (.str (repS a n)) H
theorem foldl_app : ∀ (l : List (Array Nat)) (acc : Array Nat), (l.foldl (· ++ ·) acc).toList = acc.toList ++ (l.map Array.toList).flatten
  | [], acc => by simp
  | a :: r, acc => by rw [List.foldl_cons, foldl_app r]; simp
theorem tl_repS (x : Str) (n : Nat) : TL.tl (repS x n) = (List.replicate n (TL.tl x)).flatten := by
  show ((List.replicate n x.cps).foldl (· ++ ·) #[]).toList = _
  rw [foldl_app]
  simp [TL.tl]
theorem op_mulS {X : Cx} : OpR X (binaryOp .Mult) rMulS := by
  intro pins s σ H x y v u Q I rx ry h
  obtain ⟨a, n, rfl, rfl, h1, h2, h3, h4, q⟩ := h
  obtain ⟨t, rfl⟩ := rx
  obtain ⟨t', rfl⟩ := ry
  have hn1 : ¬ (n : Int) < 1 := by omega
  have hne : ((n : Int) == 1 || a.length == 0) = false := by
    have e1 : ((n : Int) == 1) = false := by simpa using (by omega : ¬ (n : Int) = 1)
    have e2 : (a.length == 0) = false := by simpa using (by omega : ¬ a.length = 0)
    rw [e1, e2]; rfl
  have hprod : a.length * n ≤ 1000000 := Nat.mul_le_mul h4 h2
  refine P.mul_str ?_ (fun _ _ => ?_) (fun _ _ => ?_) ?_
  · rw [decide_eq_false (by omega), decide_eq_false (by omega)]; rfl
  · have hle : (a.length : Int) * (n : Int) ≤ 2 ^ 63 - 1 := by
      have : (a.length : Int) * (n : Int) = ((a.length * n : Nat) : Int) := by simp
      rw [this]
      omega
    have hd : (a.length : Int) ≤ (2 ^ 63 - 1) / (n : Int) := (Int.le_ediv_iff_mul_le (by omega)).mpr hle
    omega
  · have : (n : Int).toNat = n := by simp
    rw [this]
    unfold Builtin.Str.tooLong
    simp
    have : (1000000 : Nat) ≤ sizeLine := by decide
    omega
  · rw [if_neg hn1, if_neg (by rw [hne]; simp)]
    have e : (n : Int).toNat = n := by simp
    rw [e]
    have hl : (repS a n).length ≤ sizeLine := by
      have e3 := TL.len_tl (repS a n)
      rw [tl_repS] at e3
      have e4 : (List.replicate n (TL.tl a)).flatten.length = n * (TL.tl a).length := by simp
      rw [e4, ← TL.len_tl] at e3
      have e5 : n * a.length = a.length * n := Nat.mul_comm _ _
      have : (1000000 : Nat) ≤ sizeLine := by decide
      omega
    exact ⟨hl, .str (repS a n), H, I.tok (t := s.toks + 1), ⟨_, rfl⟩, q⟩
end Lm

namespace Lm
open PySem L2
/-! ### readings of texts -/
def rStrO : List V → Hp → VK → Prop := fun xs H Q => (∃ i : Int, xs = [.int i] ∧ i.natAbs.log2 < 1920 ∧ Q (.str (toString i)) H) ∨ ∃ a : Str, xs = [.str a] ∧ Q (.str a) H
theorem call_strO {X : Cx} : CallR X (.type "str") rStrO := by
  intro pins s σ H xs us Q I r h
  rcases h with h | h
  · exact call_str_int pins s σ H xs us Q I r h
  · exact SkE.call_str_str pins s σ H xs us Q I r h
def rIntS : List V → Hp → VK → Prop := fun xs H Q => ∃ a n, xs = [V.str a] ∧ PySem.intText? a = some n ∧ a.length ≤ 640 ∧ Q (.int n) H
def rJoin (K : PySem.W.Frag) : V → List V → Hp → VK → Prop := fun x xs H Q => ∃ a p, ∃ ys : List Str, x = .str a ∧ xs = [.ref p] ∧ (SqL K H p (ys.map V.str) ∨ SqT K H p (ys.map V.str)) ∧ (ys.map (·.length)).sum + ys.length * a.length ≤ 16777216 ∧ Q (.str (Txt.join a ys)) H
def rSplit : V → List V → Hp → VK → Prop := fun x xs H Q => ∃ a b, x = .str a ∧ xs = [.str b] ∧ (b.length == 0) = false ∧ a.length + 2 ≤ sizeLine ∧ rNewStrs (Txt.split a b) H Q
def rInSign : R2 := fun x y H Q => ∃ (c : Nat) (z : Str), x = .str ⟨#[c]⟩ ∧ y = .str z ∧ Q (.bl (decide (c ∈ z.cps.toList))) H
def rNotInSign : R2 := fun x y H Q => ∃ (c : Nat) (z : Str), x = .str ⟨#[c]⟩ ∧ y = .str z ∧ Q (.bl (!decide (c ∈ z.cps.toList))) H
/-- nothing is raised by a def that might raise -/
def XNo : XK := fun _ _ _ => False
theorem passes_no {X : Cx} : Passes (L2.CX X.prog X.w) X XNo := fun _ _ _ _ _ _ _ h => by
  obtain ⟨_, _, _, _, _, _, _, _, _, _, _, _, h⟩ := h
  exact h.elim
end Lm

namespace Lm
open PySem L2
section
variable {X : Cx} {k : Nat} {f : Addr} {fd : FuncData} {ps ks : List Str} {sp : Sp} {x : Str} {p pos : Pos} {kws : List Keyword} {tk : TA} {g : List Value → List Value → List Value} {gV : List V → List V → List V} {E : XK}
/-- a def that may raise, called by keywords alone -/
theorem pe_dKX (D : DefOkX X.prog X.w X.K X.mg X.base k x f fd ps sp) (hb : KBn X.K fd ps 0 ks g gV) (hr : Room k X.A) (hx : Passes (L2.CX X.prog X.w) X E) (hkw : PK X kws tk) (hg : Gl X x := by rfl) (hdb : (x == ("__debug__" : Str)) = false := by decide)
    (hall : (backToKw pos (keywordEach kws X.env)).all (·.1.isSome) = true := by rfl) (hks : (backToKw pos (keywordEach kws X.env)).filterMap (·.1) = ks := by rfl)
    (hpl : ((backTo pos (starEach [] X.env)).any (·.1) || (backToKw pos (keywordEach kws X.env)).any (·.1.isNone)) = false := by rfl) :
    PE X (.Call (.Name x p) [] kws pos) (tCallK0 sp ks.length gV E tk) := by
  refine ⟨fun pins s σ H Q I h => ?_⟩
  refine wpAny_Call_Name_kw (ld_glob I hg D.mg ?_ hdb)
  refine PySem.W.callWith_KW0 (h₀ := X.base) I.ok.mod.kin D.kp hall ?_ hpl
  refine thn (hkw.run pos pins s σ H _ I h) fun ws s2 ⟨zs, H2, I2, rz, l2, q2⟩ => ⟨I2.kIn, ?_⟩
  rw [hks]
  have r2 := hb.rel (vs := []) (us := []) .nil rz
  have hl : (g [] ws).length = ps.length := by rw [← r2.length]; exact D.ok.len _ _ _ _ q2
  refine wpAny_call (codeAny_mono (D.ok.run X.A X.stack s2 H2 ⟨[], ks.zip ws⟩ (g [] ws) (gV [] zs) Q E hr I2.env0 (hb.to s2 [] ws I2.kIn rfl (rz.length.symm.trans l2)) r2 q2) fun r s' hq => ?_)
  cases r with
  | error e => exact hx pins σ H2 s2 e s' I2 hq
  | ok fl =>
    cases fl with
    | ret u => exact I2.after hq
    | next => exact False.elim hq
    | brk => exact False.elim hq
    | cont => exact False.elim hq
end
end Lm

namespace Lm
open PySem L2 TL
/-! ### texts, their lines and words -/
theorem tl_sp : tl (" " : Str) = [32] := by decide +kernel
theorem tl_nl : tl ("\n" : Str) = [10] := by decide +kernel
theorem spl1_hit (s : Nat) (acc r : List Nat) : spl [s] 0 acc (s :: r) = acc :: spl [s] 0 [] r := by rw [spl_hit (by simp [pre])]; simp
theorem spl1_miss {s c : Nat} (h : c ≠ s) (acc r : List Nat) : spl [s] 0 acc (c :: r) = spl [s] 0 (acc ++ [c]) r := spl_miss (by simp [pre, h])
theorem spl1_ne (s : Nat) : ∀ (l acc : List Nat), spl [s] 0 acc l ≠ []
  | [], acc => by rw [spl_nil]; simp
  | c :: r, acc => by
    by_cases h : c = s
    · subst h; rw [spl1_hit]; simp
    · rw [spl1_miss h]; exact spl1_ne s r _
theorem spl1_free (s : Nat) : ∀ (l acc : List Nat), s ∉ acc → ∀ p ∈ spl [s] 0 acc l, s ∉ p
  | [], acc, h, p, hp => by rw [spl_nil, List.mem_singleton] at hp; rw [hp]; exact h
  | c :: r, acc, h, p, hp => by
    by_cases q : c = s
    · subst q
      rw [spl1_hit] at hp
      rcases List.mem_cons.mp hp with e | hp
      · rw [e]; exact h
      · exact spl1_free c r [] (by simp) p hp
    · rw [spl1_miss q] at hp
      refine spl1_free s r (acc ++ [c]) (fun z => ?_) p hp
      rcases List.mem_append.mp z with z | z
      · exact h z
      · exact q (List.mem_singleton.mp z).symm
theorem joinL_cons {S p : List Nat} {r : List (List Nat)} (h : r ≠ []) : joinL S (p :: r) = p ++ (S ++ joinL S r) := by
  cases r with
  | nil => exact absurd rfl h
  | cons a b => rfl
theorem joinL_spl (s : Nat) : ∀ l acc : List Nat, joinL [s] (spl [s] 0 acc l) = acc ++ l
  | [], acc => by rw [spl_nil]; show acc = acc ++ []; simp
  | c :: r, acc => by
    by_cases h : c = s
    · subst h
      rw [spl1_hit, joinL_cons (spl1_ne _ _ _), joinL_spl c r []]
      simp
    · rw [spl1_miss h, joinL_spl s r]
      simp
theorem spl1_len (s : Nat) (l : List Nat) : ∀ p ∈ spl [s] 0 [] l, p.length ≤ l.length := by
  have key : ∀ (r : List (List Nat)), ∀ p ∈ r, p.length ≤ (joinL [s] r).length := by
    intro r
    induction r with
    | nil => intro p hp; cases hp
    | cons a b ih =>
      intro p hp
      by_cases hb : b = []
      · subst hb
        rw [List.mem_singleton.mp hp]
        exact Nat.le_refl _
      · rw [joinL_cons hb]
        simp only [List.length_append]
        rcases List.mem_cons.mp hp with e | hp
        · rw [e]; omega
        · have := ih p hp; omega
  intro p hp
  have := key _ p hp
  rw [joinL_spl] at this
  simpa using this
theorem spl1_count (s : Nat) : ∀ l acc : List Nat, (spl [s] 0 acc l).length ≤ l.length + 1
  | [], acc => by rw [spl_nil]; simp
  | c :: r, acc => by
    by_cases h : c = s
    · subst h; rw [spl1_hit]; have := spl1_count c r []; simp; omega
    · rw [spl1_miss h]; have := spl1_count s r (acc ++ [c]); simp; omega
def wordsOf (l : Str) : List Str := Txt.split l " "
def linesOf (x : Str) : List Str := Txt.split x "\n"
theorem words_tl' (l : Str) : (wordsOf l).map tl = spl [32] 0 [] (tl l) := by
  have := split_spl l " " (by rw [tl_sp]; simp) (kind_ok (by decide +kernel))
  rw [tl_sp] at this
  exact this
theorem lines_tl (l : Str) : (linesOf l).map tl = spl [10] 0 [] (tl l) := by
  have := split_spl l "\n" (by rw [tl_nl]; simp) (kind_ok (by decide +kernel))
  rw [tl_nl] at this
  exact this
theorem words_ne (l : Str) : wordsOf l ≠ [] := fun z => by have := words_tl' l; rw [z] at this; exact spl1_ne _ _ _ this.symm
theorem lines_ne (l : Str) : linesOf l ≠ [] := fun z => by have := lines_tl l; rw [z] at this; exact spl1_ne _ _ _ this.symm
theorem words_free (l : Str) : ∀ p ∈ wordsOf l, 32 ∉ tl p := fun p hp => spl1_free 32 (tl l) [] (by simp) _ (by rw [← words_tl']; exact List.mem_map_of_mem hp)
theorem lines_free (l : Str) : ∀ p ∈ linesOf l, 10 ∉ tl p := fun p hp => spl1_free 10 (tl l) [] (by simp) _ (by rw [← lines_tl]; exact List.mem_map_of_mem hp)
theorem words_len (l : Str) : ∀ p ∈ wordsOf l, p.length ≤ l.length := fun p hp => by
  rw [len_tl, len_tl]
  exact spl1_len 32 (tl l) _ (by rw [← words_tl']; exact List.mem_map_of_mem hp)
theorem lines_len (l : Str) : ∀ p ∈ linesOf l, p.length ≤ l.length := fun p hp => by
  rw [len_tl, len_tl]
  exact spl1_len 10 (tl l) _ (by rw [← lines_tl]; exact List.mem_map_of_mem hp)
theorem words_count (l : Str) : (wordsOf l).length ≤ l.length + 1 := by
  have := spl1_count 32 (tl l) []
  rw [← words_tl', List.length_map, ← len_tl] at this
  exact this
theorem lines_count (l : Str) : (linesOf l).length ≤ l.length + 1 := by
  have := spl1_count 10 (tl l) []
  rw [← lines_tl, List.length_map, ← len_tl] at this
  exact this
theorem join_words (l : Str) : Txt.join " " (wordsOf l) = l := by
  refine ext_tl ?_
  rw [join_eq, tl_join, words_tl', tl_sp, joinL_spl]
  rfl
theorem join_lines (l : Str) : Txt.join "\n" (linesOf l) = l := by
  refine ext_tl ?_
  rw [join_eq, tl_join, lines_tl, tl_nl, joinL_spl]
  rfl
theorem words_join {ps : List Str} (h : ps ≠ []) (hp : ∀ p ∈ ps, 32 ∉ tl p) : wordsOf (Txt.join " " ps) = ps := split_join tl_sp (by decide +kernel) h hp
theorem lines_join {ps : List Str} (h : ps ≠ []) (hp : ∀ p ∈ ps, 10 ∉ tl p) : linesOf (Txt.join "\n" ps) = ps := split_join tl_nl (by decide +kernel) h hp
/-! ### numbers -/
def dstr (n : Nat) : Str := Str.ofString (toString ((n : Nat) : Int))
theorem tl_dstr (n : Nat) : tl (dstr n) = numL n := tl_num n
def isFig (w : Str) : Bool := !decide (w = "") && (tl w).all fun c => decide (48 ≤ c ∧ c ≤ 57)
def valOf (w : Str) : Nat := NumText.digitsVal (tl w)
theorem isFig_digits {w : Str} (h : isFig w = true) : NumText.AllDigits (tl w) ∧ tl w ≠ [] := by
  unfold isFig at h
  rw [Bool.and_eq_true] at h
  refine ⟨fun c hc => of_decide_eq_true (List.all_eq_true.mp h.2 c hc), fun z => ?_⟩
  have : w = "" := ext_tl (by rw [z]; decide +kernel)
  rw [this] at h
  simp at h
theorem int_fig {w : Str} (h : isFig w = true) (hl : w.length ≤ 4300) : PySem.intText? w = some ((valOf w : Nat) : Int) := intText_digits (isFig_digits h).1 (isFig_digits h).2 hl
def canon (w : Str) : Bool := isFig w && decide (w = dstr (valOf w))
theorem isFig_dstr (n : Nat) : isFig (dstr n) = true := by
  unfold isFig
  rw [tl_dstr, Bool.and_eq_true]
  refine ⟨?_, List.all_eq_true.mpr fun c hc => decide_eq_true (numL_digits n c hc)⟩
  rw [Bool.not_eq_true', decide_eq_false_iff_not]
  intro z
  have := congrArg tl z
  rw [tl_dstr] at this
  exact numL_ne n (this.trans (by decide +kernel))
theorem valOf_dstr (n : Nat) : valOf (dstr n) = n := by unfold valOf; rw [tl_dstr]; exact numL_val n
theorem canon_dstr (n : Nat) : canon (dstr n) = true := by unfold canon; rw [isFig_dstr, valOf_dstr]; simp
theorem digits_lt : ∀ (l : List Nat) (a : Nat), NumText.AllDigits l → l.foldl (fun acc c => acc * 10 + (c - 48)) a < (a + 1) * 10 ^ l.length
  | [], a, _ => by simp
  | c :: r, a, h => by
    rw [List.foldl_cons, List.length_cons, Nat.pow_succ]
    have h1 := digits_lt r (a * 10 + (c - 48)) h.tail
    have h2 := h.head
    refine Nat.lt_of_lt_of_le h1 ?_
    have : a * 10 + (c - 48) + 1 ≤ (a + 1) * 10 := by omega
    calc (a * 10 + (c - 48) + 1) * 10 ^ r.length ≤ ((a + 1) * 10) * 10 ^ r.length := Nat.mul_le_mul_right _ this
      _ = (a + 1) * (10 ^ r.length * 10) := by rw [Nat.mul_assoc, Nat.mul_comm 10]
theorem valOf_lt {w : Str} (h : NumText.AllDigits (tl w)) : valOf w < 10 ^ w.length := by
  have := digits_lt (tl w) 0 h
  unfold valOf NumText.digitsVal
  rw [len_tl]
  simpa using this
/-! ### deeds and their lines -/
def kindsS : List Str := ["read", "jump", "anew", "give", "take"]
def leadS : List Str := ["read", "jump"]
def cntOf (k : Str) : Nat := if k ∈ leadS then 2 else 1
abbrev Deed := Str × List Nat
def lineOf (d : Deed) : Str := Txt.join " " (d.1 :: d.2.map dstr) ++ "\n"
/-- what the words of a line tell, if they tell a deed -/
def deedW : List Str → Option Deed
  | [] => none
  | k :: fs => if k ∈ kindsS ∧ fs.length = cntOf k ∧ fs.all canon = true ∧ (fs.map valOf).headD 3 < 3 then some (k, fs.map valOf) else none
def deedL (l : Str) : Option Deed := deedW (wordsOf l)
theorem kinds_free : ∀ k ∈ kindsS, 32 ∉ tl k ∧ 10 ∉ tl k := by decide +kernel
theorem dstr_free (n : Nat) : 32 ∉ tl (dstr n) ∧ 10 ∉ tl (dstr n) := by rw [tl_dstr]; exact ⟨numL_free (.inl (by decide)), numL_free (.inl (by decide))⟩
theorem tl_app (x y : Str) : tl (x ++ y) = tl x ++ tl y := tl_append x y
theorem app_nl_inj {x y : Str} (h : x ++ "\n" = y ++ "\n") : x = y := by
  have := congrArg tl h
  rw [tl_app, tl_app] at this
  exact ext_tl (List.append_cancel_right this)
/-- a line is written as it was read just if its numbers are -/
theorem line_iff {l k : Str} {fs : List Str} (hw : wordsOf l = k :: fs) (hk : k ∈ kindsS) : lineOf (k, fs.map valOf) = l ++ "\n" ↔ ∀ w ∈ fs, w = dstr (valOf w) := by
  have hj := join_words l
  rw [hw] at hj
  constructor
  · intro h
    have h1 : Txt.join " " (k :: (fs.map valOf).map dstr) = l := app_nl_inj h
    have h2 := words_join (ps := k :: (fs.map valOf).map dstr) (by simp) (fun p hp => by
      rcases List.mem_cons.mp hp with e | hp
      · rw [e]; exact (kinds_free k hk).1
      · obtain ⟨n, _, rfl⟩ := List.mem_map.mp hp
        exact (dstr_free n).1)
    rw [h1, hw] at h2
    have h3 := (List.cons.inj h2).2
    rw [List.map_map] at h3
    intro w hw'
    obtain ⟨i, hi⟩ := List.mem_iff_getElem?.mp hw'
    have h4 := congrArg (fun z => z[i]?) h3
    simp only [List.getElem?_map, hi] at h4
    exact Option.some.inj h4
  · intro h
    show Txt.join " " (k :: (fs.map valOf).map dstr) ++ "\n" = l ++ "\n"
    have : (fs.map valOf).map dstr = fs := by
      rw [List.map_map]
      refine (List.map_congr_left fun w hw' => ?_).trans (List.map_id fs)
      exact (h w hw').symm
    rw [this, hj]
theorem line_ne {l k : Str} {ns : List Nat} (h : 10 ∉ tl l) : lineOf (k, ns) ≠ l := fun z => by
  have := congrArg tl z
  unfold lineOf at this
  rw [tl_app, tl_nl] at this
  exact h (by rw [← this]; simp)
theorem stripLo_no (g : Nat → Bool) (x : Str) : PySem.stripLo g false x = 0 := rfl
theorem nl_has (c : Nat) : ("\n" : Str).cps.contains c = decide (c = 10) := by
  have e : ("\n" : Str).cps = #[10] := by decide +kernel
  rw [e]
  by_cases h : c = 10 <;> simp [h]
theorem cps_at {x : Str} {i : Nat} (h : i < (tl x).length) : x.cps.getD i 0 = (tl x)[i] := by
  rw [← PyProof.Rows.getD_list, List.getD_eq_getElem?_getD, List.getElem?_eq_getElem h]
  rfl
theorem rstrip_cut (l : List Nat) (m : List Nat) (h : 10 ∉ l) (hm : ∀ c ∈ m, c = 10) (x : Str) (hx : tl x = l ++ m) : tl (Txt.rstripChars x "\n") = l := by
  unfold Txt.rstripChars
  rw [PyProof.Rows.stripBy_eq, stripLo_no, tl_strSub]
  obtain ⟨h1, h2, h3, h4⟩ := PyProof.Rows.hi_facts ("\n" : Str).cps.contains x 0 (Nat.zero_le _)
  generalize PySem.stripHi ("\n" : Str).cps.contains true x 0 = hi at h1 h2 h3 h4
  rw [len_tl] at h2
  have hlen : (tl x).length = l.length + m.length := by rw [hx, List.length_append]
  have e : hi = l.length := by
    rcases Nat.lt_trichotomy hi l.length with q | q | q
    · -- the sign at hi is struck, so it is 10
      have hlt : hi < (tl x).length := by omega
      have := h3 hi (Nat.le_refl _) (by rw [len_tl]; exact hlt)
      rw [cps_at hlt, nl_has] at this
      have e10 := of_decide_eq_true this
      have : (tl x)[hi]'hlt = l[hi] := by
        simp only [hx]
        exact List.getElem_append_left q
      rw [this] at e10
      exact absurd (e10 ▸ List.getElem_mem q) h
    · exact q
    · rcases h4 with h4 | h4
      · omega
      · have hlt : hi - 1 < (tl x).length := by omega
        rw [cps_at hlt, nl_has] at h4
        have e10 := of_decide_eq_false h4
        refine absurd (hm _ ?_) e10
        have : (tl x)[hi - 1]'hlt = m[hi - 1 - l.length]'(by omega) := by
          simp only [hx]
          exact List.getElem_append_right (by omega)
        rw [this]
        exact List.getElem_mem _
  rw [e, hx]
  simp
theorem rstrip_nl {l : Str} (h : 10 ∉ tl l) : Txt.rstripChars (l ++ "\n") "\n" = l := ext_tl (rstrip_cut (tl l) [10] h (by simp) _ (by rw [tl_app, tl_nl]))
theorem rstrip_free {l : Str} (h : 10 ∉ tl l) : Txt.rstripChars l "\n" = l := ext_tl (rstrip_cut (tl l) [] h (by simp) _ (by simp))
/-- deeds that have lines -/
structure DeedOk (d : Deed) : Prop where
  k : d.1 ∈ kindsS
  n : d.2.length = cntOf d.1
  d : d.2.headD 3 < 3
theorem deedL_line {d : Deed} (h : DeedOk d) : deedL (Txt.join " " (d.1 :: d.2.map dstr)) = some d := by
  obtain ⟨k, ns⟩ := d
  unfold deedL
  rw [words_join (by simp) (fun p hp => by
    rcases List.mem_cons.mp hp with e | hp
    · rw [e]; exact (kinds_free k h.k).1
    · obtain ⟨n, _, rfl⟩ := List.mem_map.mp hp
      exact (dstr_free n).1)]
  have e : (ns.map dstr).map valOf = ns := by
    rw [List.map_map]
    exact (List.map_congr_left fun n _ => valOf_dstr n).trans (List.map_id ns)
  show (if _ then _ else _) = _
  rw [if_pos ⟨h.k, by rw [List.length_map]; exact h.n, List.all_eq_true.mpr fun w hw => by
    obtain ⟨n, _, rfl⟩ := List.mem_map.mp hw
    exact canon_dstr n, by rw [e]; exact h.d⟩, e]
end Lm

namespace Lm
open PySem L2 TL
/-! ### runs without a line feed -/
def SgB (M : Nat) (l : List Nat) : Prop := ∀ a b c : List Nat, l = a ++ (b ++ c) → 10 ∉ b → b.length ≤ M
theorem SgB.mono {M N : Nat} {l : List Nat} (h : SgB M l) (hn : M ≤ N) : SgB N l := fun a b c e q => Nat.le_trans (h a b c e q) hn
theorem sg_short {M : Nat} {l : List Nat} (h : l.length ≤ M) : SgB M l := fun a b c e q => by
  have := congrArg List.length e
  simp only [List.length_append] at this
  omega
theorem sg_app {M N : Nat} {p q : List Nat} (hp : SgB M p) (hq : SgB N q) : SgB (M + N) (p ++ q) := fun a b c e n => by
  rcases List.append_eq_append_iff.mp e with ⟨a', h1, h2⟩ | ⟨c', h1, h2⟩
  · have := hq a' b c h2 n; omega
  · rcases List.append_eq_append_iff.mp h2 with ⟨a'', h3, h4⟩ | ⟨c'', h3, h4⟩
    · have := hp a b a'' (by rw [h1, h3]) n; omega
    · have g1 := hp a c' [] (by rw [h1, List.append_nil]) (fun z => n (by rw [h3]; exact List.mem_append_left _ z))
      have g2 := hq [] c'' c (by rw [h4]; rfl) (fun z => n (by rw [h3]; exact List.mem_append_right _ z))
      rw [h3, List.length_append]
      omega
theorem sg_nl {M : Nat} {p q : List Nat} (hp : SgB M p) (hq : SgB M q) : SgB M (p ++ 10 :: q) := fun a b c e n => by
  rcases List.append_eq_append_iff.mp e with ⟨a', h1, h2⟩ | ⟨c', h1, h2⟩
  · cases a' with
    | nil =>
      cases b with
      | nil => exact Nat.zero_le _
      | cons b0 b =>
        have h2 : 10 :: q = b0 :: (b ++ c) := h2
        have := (List.cons.inj h2).1
        exact absurd (by rw [this]; simp) n
    | cons a0 a' => exact hq a' b c (List.cons.inj h2).2 n
  · rcases List.append_eq_append_iff.mp h2 with ⟨a'', h3, h4⟩ | ⟨c'', h3, h4⟩
    · exact hp a b a'' (by rw [h1, h3]) n
    · cases c'' with
      | nil => exact hp a b [] (by rw [h1, h3]; simp) n
      | cons c0 c'' =>
        have h4 : 10 :: q = c0 :: (c'' ++ c) := h4
        have := (List.cons.inj h4).1
        exact absurd (by rw [h3, this]; simp) n
theorem sg_left {M : Nat} {p q : List Nat} (h : SgB M (p ++ q)) : SgB M p := fun a b c e n => h a b (c ++ q) (by rw [e]; simp) n
theorem sg_right {M : Nat} {p q : List Nat} (h : SgB M (p ++ q)) : SgB M q := fun a b c e n => h (p ++ a) b c (by rw [e]; simp) n
theorem sg_take {M n : Nat} {l : List Nat} (h : SgB M l) : SgB M (l.take n) := sg_left (q := l.drop n) (by rw [List.take_append_drop]; exact h)
theorem sg_drop {M n : Nat} {l : List Nat} (h : SgB M l) : SgB M (l.drop n) := sg_right (p := l.take n) (by rw [List.take_append_drop]; exact h)
theorem sg_join {M : Nat} : ∀ {ps : List (List Nat)}, (∀ p ∈ ps, SgB M p) → SgB M (joinL [10] ps)
  | [], _ => sg_short (Nat.zero_le _)
  | p :: r, h => by
    by_cases hr : r = []
    · subst hr
      exact h p (by simp)
    · rw [joinL_cons hr]
      exact sg_nl (h p (by simp)) (sg_join fun q hq => h q (by simp [hq]))
theorem join_at : ∀ {ps : List (List Nat)} {p : List Nat}, p ∈ ps → ∃ a c, joinL [10] ps = a ++ (p ++ c)
  | q :: r, p, h => by
    by_cases hr : r = []
    · subst hr
      rw [List.mem_singleton.mp h]
      exact ⟨[], [], by show q = _; simp⟩
    · rw [joinL_cons hr]
      rcases List.mem_cons.mp h with rfl | h
      · exact ⟨[], _, rfl⟩
      · obtain ⟨a, c, e⟩ := join_at h
        exact ⟨q ++ ([10] ++ a), c, by rw [e]; simp⟩
theorem sg_lines {M : Nat} {x : Str} (h : SgB M (tl x)) : ∀ l ∈ linesOf x, l.length ≤ M := fun l hl => by
  have h1 : tl l ∈ spl [10] 0 [] (tl x) := by rw [← lines_tl]; exact List.mem_map_of_mem hl
  obtain ⟨a, c, e⟩ := join_at h1
  rw [joinL_spl, List.nil_append] at e
  rw [len_tl]
  exact h a _ c e (lines_free x l hl)
/-! ### the weight of a row of texts -/
def wgt (ps : List Str) : Nat := (ps.map (·.length)).sum + ps.length
theorem wgt_app (p q : List Str) : wgt (p ++ q) = wgt p + wgt q := by
  unfold wgt
  rw [List.map_append, List.sum_append, List.length_append]
  omega
theorem wgt_one (x : Str) : wgt [x] = x.length + 1 := by simp [wgt]
theorem wgt_cut (ws : List Str) (n : Nat) : wgt (ws.take n) + wgt (ws.drop n) = wgt ws := by rw [← wgt_app, List.take_append_drop]
theorem wgt_drop (ws : List Str) (n : Nat) : wgt (ws.drop (n + 1)) ≤ wgt (ws.drop n) := by
  have := wgt_cut (ws.drop n) 1
  rw [List.drop_drop] at this
  omega
theorem joinL_len1 (s : Nat) : ∀ {ps : List (List Nat)}, ps ≠ [] → (joinL [s] ps).length + 1 = (ps.map List.length).sum + ps.length
  | [p], _ => by simp [joinL]
  | p :: q :: r, _ => by
    rw [joinL_cons (by simp)]
    have := joinL_len1 s (ps := q :: r) (by simp)
    rw [List.map_cons, List.sum_cons, List.length_cons (a := p)]
    simp only [List.length_append, List.length_singleton]
    omega
theorem wgt_words (l : Str) : wgt (wordsOf l) = l.length + 1 := by
  have h := joinL_len1 32 (spl1_ne 32 (tl l) [])
  rw [joinL_spl, ← words_tl', List.map_map, List.length_map] at h
  have e : (wordsOf l).map (List.length ∘ tl) = (wordsOf l).map (·.length) := List.map_congr_left fun p _ => (len_tl p).symm
  rw [e] at h
  unfold wgt
  rw [len_tl]
  exact h.symm
theorem wgt_lines (l : Str) : wgt (linesOf l) = l.length + 1 := by
  have h := joinL_len1 10 (spl1_ne 10 (tl l) [])
  rw [joinL_spl, ← lines_tl, List.map_map, List.length_map] at h
  have e : (linesOf l).map (List.length ∘ tl) = (linesOf l).map (·.length) := List.map_congr_left fun p _ => (len_tl p).symm
  rw [e] at h
  unfold wgt
  rw [len_tl]
  exact h.symm
theorem len_app' (x y : Str) : (x ++ y).length = x.length + y.length := by rw [len_tl, tl_append, List.length_append, len_tl, len_tl]
theorem wgt_set (ws : List Str) (k : Nat) (y : Str) : wgt (ws.set k y) ≤ wgt ws + y.length := by
  induction ws generalizing k with
  | nil => simp [wgt]
  | cons a r ih =>
    cases k with
    | zero =>
      simp only [List.set_cons_zero, wgt, List.map_cons, List.sum_cons, List.length_cons]
      omega
    | succ k =>
      have := ih k
      simp only [List.set_cons_succ, wgt, List.map_cons, List.sum_cons, List.length_cons] at this ⊢
      omega
/-! ### texts of deeds -/
def lnD (d : Deed) : Str := Txt.join " " (d.1 :: d.2.map dstr)
theorem tl_lnD (d : Deed) : tl (lineOf d) = tl (lnD d) ++ [10] := by
  unfold lineOf
  rw [tl_app, tl_nl]
  rfl
theorem tl_text (ds : List Deed) : tl (Txt.join "" (ds.map lineOf)) = (ds.map fun d => tl (lnD d) ++ [10]).flatten := by
  rw [join_eq, tl_join]
  have e0 : tl ("" : Str) = [] := by decide +kernel
  rw [e0, List.map_map]
  have : ∀ ps : List (List Nat), joinL [] ps = ps.flatten := by
    intro ps
    induction ps with
    | nil => rfl
    | cons a r ih =>
      by_cases hr : r = []
      · subst hr; simp [joinL]
      · rw [joinL_cons hr, ih]; rfl
  rw [this]
  congr 1
  exact List.map_congr_left fun d _ => tl_lnD d
theorem flat_nl (cs : List (List Nat)) (r : List Nat) : (cs.map fun c => c ++ [10]).flatten ++ r = joinL [10] (cs ++ [r]) := by
  induction cs with
  | nil => rfl
  | cons a b ih =>
    rw [List.cons_append, joinL_cons (by simp), ← ih, List.map_cons, List.flatten_cons]
    simp
theorem lines_text {ds : List Deed} {r : Str} (hd : ∀ d ∈ ds, 10 ∉ tl (lnD d)) (hr : 10 ∉ tl r) : linesOf (Txt.join "" (ds.map lineOf) ++ r) = ds.map lnD ++ [r] := by
  have e : Txt.join "" (ds.map lineOf) ++ r = Txt.join "\n" (ds.map lnD ++ [r]) := by
    refine ext_tl ?_
    rw [tl_app, tl_text, join_eq, tl_join, tl_nl, List.map_append, List.map_map]
    have := flat_nl (ds.map fun d => tl (lnD d)) (tl r)
    rw [List.map_map] at this
    exact this
  rw [e]
  refine lines_join (by simp) fun p hp => ?_
  rcases List.mem_append.mp hp with hp | hp
  · obtain ⟨d, hd', rfl⟩ := List.mem_map.mp hp
    exact hd d hd'
  · rw [List.mem_singleton.mp hp]
    exact hr
theorem lnD_free {d : Deed} (h : DeedOk d) : 10 ∉ tl (lnD d) := by
  unfold lnD
  rw [join_eq, tl_join, tl_sp]
  have key : ∀ ps : List (List Nat), (∀ p ∈ ps, 10 ∉ p) → 10 ∉ joinL [32] ps := by
    intro ps
    induction ps with
    | nil => intro _ z; cases z
    | cons a r ih =>
      intro hp z
      by_cases hr : r = []
      · subst hr
        exact hp a (by simp) z
      · rw [joinL_cons hr] at z
        rcases List.mem_append.mp z with z | z
        · exact hp a (by simp) z
        · rcases List.mem_append.mp z with z | z
          · simp at z
          · exact ih (fun p h => hp p (by simp [h])) z
  refine key _ fun p hp => ?_
  rw [List.map_cons] at hp
  rcases List.mem_cons.mp hp with rfl | hp
  · exact (kinds_free _ h.k).2
  · rw [List.map_map] at hp
    obtain ⟨n, _, rfl⟩ := List.mem_map.mp hp
    exact (dstr_free n).2
theorem sg_text {M : Nat} {ds : List Deed} {r : Str} (hd : ∀ d ∈ ds, (lnD d).length ≤ M) (hr : r.length ≤ M) : SgB M (tl (Txt.join "" (ds.map lineOf) ++ r)) := by
  rw [tl_app, tl_text]
  have := flat_nl (ds.map fun d => tl (lnD d)) (tl r)
  rw [List.map_map] at this
  show SgB M ((ds.map ((fun c => c ++ [10]) ∘ fun d => tl (lnD d))).flatten ++ tl r)
  rw [this]
  refine sg_join fun p hp => ?_
  rcases List.mem_append.mp hp with hp | hp
  · obtain ⟨d, hd', rfl⟩ := List.mem_map.mp hp
    exact sg_short (by rw [← len_tl]; exact hd d hd')
  · rw [List.mem_singleton.mp hp]
    exact sg_short (by rw [← len_tl]; exact hr)
end Lm

namespace Lm
open PySem L2
/-! ### editions as truths over the numbers of the passages -/
def idx (N : Nat) (S : Nat → Bool) : List Nat := (List.range N).filter S
def cnt (S : Nat → Bool) (c : Nat) : Nat := (idx c S).length
def cutsL (N : Nat) (S : Nat → Bool) : List Nat := 0 :: (idx N S).map (· + 1)
def countsL (N : Nat) (S : Nat → Bool) : List Nat := (List.range (N + 1)).map (cnt S)
def ker (S : Nat → Bool) : Nat → Nat
  | 0 => 0
  | c + 1 => if S c = true then c + 1 else ker S c
def no : Str := ⟨#[]⟩
def pick (ws : List Str) (S : Nat → Bool) : List Str := (idx ws.length S).map fun i => ws.getD i no
theorem idx_mem {N : Nat} {S : Nat → Bool} {i : Nat} : i ∈ idx N S ↔ i < N ∧ S i = true := by unfold idx; rw [List.mem_filter, List.mem_range]
theorem idx_sorted (N : Nat) (S : Nat → Bool) : (idx N S).Pairwise (· < ·) := List.Pairwise.filter _ List.pairwise_lt_range
theorem idx_succ (c : Nat) (S : Nat → Bool) : idx (c + 1) S = idx c S ++ (if S c = true then [c] else []) := by
  unfold idx
  rw [List.range_succ, List.filter_append]
  by_cases h : S c = true <;> simp [h]
theorem idx_len (N : Nat) (S : Nat → Bool) : (idx N S).length ≤ N := by
  unfold idx
  exact Nat.le_trans (List.length_filter_le _ _) (by simp)
theorem cnt_zero (S : Nat → Bool) : cnt S 0 = 0 := rfl
theorem cnt_succ (S : Nat → Bool) (c : Nat) : cnt S (c + 1) = cnt S c + if S c = true then 1 else 0 := by
  unfold cnt
  rw [idx_succ, List.length_append]
  by_cases h : S c = true <;> simp [h]
theorem cnt_mono {S : Nat → Bool} {a b : Nat} (h : a ≤ b) : cnt S a ≤ cnt S b := by
  induction b with
  | zero => have : a = 0 := by omega
            subst this; exact Nat.le_refl _
  | succ b ih =>
    rcases Nat.lt_or_ge a (b + 1) with h1 | h1
    · have := ih (by omega)
      rw [cnt_succ]; omega
    · have : a = b + 1 := by omega
      subst this; exact Nat.le_refl _
theorem idx_pre (S : Nat → Bool) (c d : Nat) : ∃ t, idx (c + d) S = idx c S ++ t := by
  unfold idx
  exact ⟨_, by rw [List.range_add, List.filter_append]⟩
theorem cutsL_len (N : Nat) (S : Nat → Bool) : (cutsL N S).length = cnt S N + 1 := by unfold cutsL cnt; simp
theorem cutsL_succ (c : Nat) (S : Nat → Bool) : cutsL (c + 1) S = cutsL c S ++ (if S c = true then [c + 1] else []) := by
  unfold cutsL
  rw [idx_succ]
  by_cases h : S c = true <;> simp [h]
theorem cuts_last (S : Nat → Bool) : ∀ c, (cutsL c S)[cnt S c]? = some (ker S c)
  | 0 => rfl
  | c + 1 => by
    rw [cutsL_succ, cnt_succ]
    by_cases h : S c = true
    · have hl := cutsL_len c S
      rw [if_pos h, if_pos h, List.getElem?_append_right (by omega), hl, Nat.sub_self]
      show some (c + 1) = some (ker S (c + 1))
      unfold ker
      rw [if_pos h]
    · rw [if_neg h, if_neg h, List.append_nil, Nat.add_zero, cuts_last S c]
      show some (ker S c) = some (ker S (c + 1))
      rw [show ker S (c + 1) = ker S c from by rw [ker]; exact if_neg h]
theorem cuts_at {N c : Nat} (S : Nat → Bool) (h : c ≤ N) : (cutsL N S)[cnt S c]? = some (ker S c) := by
  obtain ⟨t, ht⟩ := idx_pre S c (N - c)
  have e : c + (N - c) = N := by omega
  rw [e] at ht
  have e2 : cutsL N S = cutsL c S ++ t.map (· + 1) := by
    unfold cutsL
    rw [ht]
    simp
  rw [e2, List.getElem?_append_left (by rw [cutsL_len]; omega)]
  exact cuts_last S c
theorem cuts_mem {N c : Nat} {S : Nat → Bool} : c + 1 ∈ cutsL N S ↔ c < N ∧ S c = true := by
  unfold cutsL
  simp only [List.mem_cons, List.mem_map]
  constructor
  · rintro (h | ⟨a, ha, e⟩)
    · omega
    · have : a = c := by omega
      subst this; exact idx_mem.mp ha
  · intro h
    exact .inr ⟨c, idx_mem.mpr h, rfl⟩
theorem counts_at' {N c : Nat} (S : Nat → Bool) (h : c ≤ N) : (countsL N S)[c]? = some (cnt S c) := by
  unfold countsL
  rw [List.getElem?_map, List.getElem?_range (by omega)]
  rfl
/-! ### kernels -/
theorem ker_le (S : Nat → Bool) : ∀ c, ker S c ≤ c
  | 0 => Nat.le_refl _
  | c + 1 => by
    unfold ker
    by_cases h : S c = true
    · rw [if_pos h]; exact Nat.le_refl _
    · rw [if_neg h]; exact Nat.le_succ_of_le (ker_le S c)
theorem ker_fix (S : Nat → Bool) : ∀ c, ker S c = c ↔ c = 0 ∨ ∃ d, c = d + 1 ∧ S d = true
  | 0 => by simp [ker]
  | c + 1 => by
    have hl := ker_le S c
    unfold ker
    by_cases h : S c = true
    · simp [h]
    · simp [h]
      omega
theorem ker_idem (S : Nat → Bool) : ∀ c, ker S (ker S c) = ker S c
  | 0 => rfl
  | c + 1 => by
    by_cases h : S c = true
    · have e : ker S (c + 1) = c + 1 := by rw [ker]; exact if_pos h
      rw [e, e]
    · have e : ker S (c + 1) = ker S c := by rw [ker]; exact if_neg h
      rw [e]; exact ker_idem S c
theorem ker_mono1 (S : Nat → Bool) (c : Nat) : ker S c ≤ ker S (c + 1) := by
  rw [ker]
  have := ker_le S c
  split <;> omega
theorem ker_mono (S : Nat → Bool) {a b : Nat} (h : a ≤ b) : ker S a ≤ ker S b := by
  induction b with
  | zero => have : a = 0 := by omega
            subst this; exact Nat.le_refl _
  | succ b ih =>
    rcases Nat.lt_or_ge a (b + 1) with h1 | h1
    · exact Nat.le_trans (ih (by omega)) (ker_mono1 S b)
    · have : a = b + 1 := by omega
      subst this; exact Nat.le_refl _
/-- the greatest cut not above at which the edition stands -/
theorem ker_ge {S : Nat → Bool} {d c : Nat} (h : d ≤ c) (hd : ker S d = d) : d ≤ ker S c := by
  have := ker_mono S h
  omega
theorem ker_or (S T : Nat → Bool) : ∀ c, ker (fun i => S i || T i) c = max (ker S c) (ker T c)
  | 0 => rfl
  | c + 1 => by
    have h1 := ker_le S c
    have h2 := ker_le T c
    have ih := ker_or S T c
    unfold ker
    by_cases a : S c = true <;> by_cases b : T c = true <;> simp [a, b, ih] <;> omega
theorem ker_congr {S T : Nat → Bool} : ∀ c, (∀ i < c, S i = T i) → ker S c = ker T c
  | 0, _ => rfl
  | c + 1, h => by
    unfold ker
    rw [h c (by omega), ker_congr c fun i hi => h i (by omega)]
theorem ker_all : ∀ c, ker (fun _ => true) c = c
  | 0 => rfl
  | c + 1 => by simp [ker]
theorem ker_none : ∀ c, ker (fun _ => false) c = 0
  | 0 => rfl
  | c + 1 => by
    rw [ker]
    simp [ker_none c]
theorem ker_sub {S T : Nat → Bool} {N : Nat} : (∀ i < N, S i = true → T i = true) ↔ ∀ c ≤ N, ker S c ≤ ker T c := by
  constructor
  · intro h c hc
    have h1 : ker T (ker S c) = ker S c := by
      rw [ker_fix]
      rcases (ker_fix S (ker S c)).mp (ker_idem S c) with e | ⟨d, e, hd⟩
      · exact .inl e
      · have := ker_le S c
        exact .inr ⟨d, e, h d (by omega) hd⟩
    exact ker_ge (ker_le S c) h1
  · intro h i hi hS
    have h1 := h (i + 1) (by omega)
    have h2 : ker S (i + 1) = i + 1 := by rw [ker]; exact if_pos hS
    have h3 := ker_le T (i + 1)
    have h4 : ker T (i + 1) = i + 1 := by omega
    rcases (ker_fix T (i + 1)).mp h4 with e | ⟨d, e, hd⟩
    · omega
    · have : d = i := by omega
      subst this; exact hd
/-- so many passages end at a cut at most just if the cut is at least behind them -/
theorem cuts_le_iff {N c n : Nat} {S : Nat → Bool} {x : Nat} (hc : c ≤ N) (h : (cutsL N S)[n]? = some x) : x ≤ c ↔ n ≤ cnt S c := by
  have srt : (cutsL N S).Pairwise (· < ·) := by
    unfold cutsL
    refine List.pairwise_cons.mpr ⟨fun a ha => ?_, ?_⟩
    · obtain ⟨b, _, e⟩ := List.mem_map.mp ha
      omega
    · refine List.Pairwise.map _ (fun a b hab => ?_) (idx_sorted N S)
      omega
  have hk := cuts_at S hc
  obtain ⟨l1, e1⟩ := List.getElem?_eq_some_iff.mp h
  obtain ⟨l2, e2⟩ := List.getElem?_eq_some_iff.mp hk
  have hkl := ker_le S c
  constructor
  · intro hx
    rcases Nat.lt_or_ge (cnt S c) n with hn | hn
    · exfalso
      have h1 := List.pairwise_iff_getElem.mp srt (cnt S c) n l2 l1 hn
      rw [e1, e2] at h1
      -- x stands in S and is at most c, so it is at most the kernel
      cases n with
      | zero => omega
      | succ n =>
        have h2 : x ∈ (idx N S).map (· + 1) := by
          unfold cutsL at h
          have : ((idx N S).map (· + 1))[n]? = some x := h
          exact List.mem_of_getElem? this
        obtain ⟨d, hd, e⟩ := List.mem_map.mp h2
        have e : d + 1 = x := e
        have h3 : ker S x = x := (ker_fix S x).mpr (.inr ⟨d, e.symm, (idx_mem.mp hd).2⟩)
        have := ker_ge hx h3
        omega
    · exact hn
  · intro hn
    rcases Nat.lt_or_ge n (cnt S c) with h1 | h1
    · have h2 := List.pairwise_iff_getElem.mp srt n (cnt S c) l1 l2 h1
      rw [e1, e2] at h2
      omega
    · have : n = cnt S c := by omega
      subst this
      rw [hk] at h
      have := Option.some.inj h
      omega
theorem cnt_cuts {N n : Nat} {S : Nat → Bool} {x : Nat} (h : (cutsL N S)[n]? = some x) : x ≤ N ∧ cnt S x = n := by
  have hn : n ≤ cnt S N := by
    have := (List.getElem?_eq_some_iff.mp h).1
    rw [cutsL_len] at this
    omega
  have hx : x ≤ N := (cuts_le_iff (Nat.le_refl N) h).mpr hn
  refine ⟨hx, ?_⟩
  have h1 := (cuts_le_iff hx h).mp (Nat.le_refl _)
  rcases Nat.lt_or_ge n (cnt S x) with h2 | h2
  · exfalso
    have hk := cuts_at S hx
    have h3 := (cuts_le_iff (c := x) hx (n := n + 1) (x := (cutsL N S).getD (n + 1) 0) ?_).mpr h2
    · have srt : (cutsL N S).Pairwise (· < ·) := by
        unfold cutsL
        refine List.pairwise_cons.mpr ⟨fun a ha => ?_, ?_⟩
        · obtain ⟨b, _, e⟩ := List.mem_map.mp ha
          omega
        · refine List.Pairwise.map _ (fun a b hab => ?_) (idx_sorted N S)
          omega
      have l2 : n + 1 < (cutsL N S).length := by
        have := (List.getElem?_eq_some_iff.mp hk).1
        omega
      obtain ⟨l1, e1⟩ := List.getElem?_eq_some_iff.mp h
      have h4 := List.pairwise_iff_getElem.mp srt n (n + 1) l1 l2 (by omega)
      rw [List.getD_eq_getElem?_getD, List.getElem?_eq_getElem l2] at h3
      simp at h3
      omega
    · have l2 : n + 1 < (cutsL N S).length := by
        have := (List.getElem?_eq_some_iff.mp hk).1
        omega
      rw [List.getD_eq_getElem?_getD, List.getElem?_eq_getElem l2]
      rfl
  · omega
end Lm

namespace Lm
open PySem L2
def top (i : Nat) : Stmt := PySem.Challenge.pw_leafmarks_k30_history_texts.main.body.getD i (.Pass ⟨0, 0, 0, 0⟩)
end Lm

namespace Lm
open PySem L2
/-- what the walk asks of the built-in names -/
structure Blt (mg : Str → Option Value) : Prop where
  b_len : mg "len" = none
  b_int : mg "int" = none
  b_range : mg "range" = none
  b_enumerate : mg "enumerate" = none
  b_isinstance : mg "isinstance" = none
  b_list : mg "list" = none
  b_tuple : mg "tuple" = none
  b_str : mg "str" = none
  b_bool : mg "bool" = none
  b_all : mg "all" = none
  b_max : mg "max" = none
  b_zip : mg "zip" = none
section
variable {P : Program} {w : World} {K : PySem.W.Frag} {mg : Str → Option Value} {base : Heap} {f : Addr} {fd : FuncData}
def spFresh (K : PySem.W.Frag) : Sp := fun vs H Q _ => ∃ (a : Addr) (ns : List Int), vs = [.ref a] ∧ SqL K H a (ns.map V.int) ∧ ns.length ≤ 63 ∧ ∀ p c H', H p = none → H c = none → Same H H' → StAt H' p c → Q (.ref p) H'
abbrev s_fresh : Stmt := top 16
theorem sc_fresh : FnScope ["_law_script"] ["_law_script"] (defScope s_fresh) := ⟨rfl, rfl, rfl, by decide +kernel, rfl, by decide +kernel, by decide +kernel⟩
theorem ok_fresh (F : Fun K "_law_fresh" "_law_fresh" s_fresh f fd) (T : Blt mg) : FnOk P w K mg base CX0 1 f fd ["_law_script"] (spFresh K) := by
  refine F.ok sc_fresh (fun vs H Q E h => ?_) (fun cdv A outer s H vs Q E hr h => ?_)
  · obtain ⟨a, ns, rfl, _⟩ := h
    rfl
  · obtain ⟨a, ns, rfl, hS, hl, k⟩ := h
    refine ⟨_, (pss_one (ps_ret (pe_lst (pa_cons (pe_slice sl_list (pv 0) po_none (po_some pe_int)) (pa_cons pe_int (pa_cons pe_int (pa_cons pe_bl pa_nil))))))), ?_⟩
    have hc : cutV (ns.map V.int) none (some 63) = (ns.map V.int) := by
      have e : (ns.map V.int).length = ns.length := List.length_map ..
      unfold cutV
      rw [HT.sIx_none, show (some (63 : Int)) = some ((63 : Nat) : Int) from rfl, HT.sIx_nat, List.drop_zero, e, Nat.min_eq_right hl, Nat.sub_zero, ← e, List.take_length]
    refine ⟨_, rfl, ⟨63, rfl, a, _, rfl, hS, fun c nc => ⟨by show 4 ≤ sizeLine; decide, fun p np => ?_⟩⟩⟩
    have hpc : p ≠ c := (ne_of_none upd_same np).symm
    have np' : H p = none := by rw [← upd_ne (H := H) (o := .lst (cutV (ns.map V.int) none (some 63))) hpc]; exact np
    refine k p c _ np' nc ((Same.upd' nc).trans (Same.upd' np)) ⟨⟨0, 0, false, upd_same⟩, ⟨ns, ?_, hl⟩, hpc.symm⟩
    rw [upd_ne hpc.symm, upd_same, hc]
end
end Lm

namespace Lm
open PySem L2
theorem mem_at {xs : List V} {i : Nat} {x : V} (h : xs[i]? = some x) : x ∈ xs := List.mem_of_getElem? h
theorem fmod_bd (a : Int) {p : Int} (h : 0 < p) : 0 ≤ Int.fmod a p ∧ Int.fmod a p < p := ⟨Int.fmod_nonneg_of_pos a h, Int.fmod_lt_of_pos a h⟩
/-- exactly evaluated: a value, the heap as it was -/
def Vx (te : TE) (σ : St) (H : Hp) (v : V) : Prop := ∀ Q : VK, Q v H → te σ H Q
theorem vx_or {ta tb : TE} {σ : St} {H : Hp} {a b : Bool} (h1 : Vx ta σ H (.bl a)) (h2 : Vx tb σ H (.bl b)) : Vx (tOrV ta tb) σ H (.bl (a || b)) := by
  intro Q q
  refine h1 _ ⟨a, rfl, ?_⟩
  cases a
  · exact iteF (h2 _ q)
  · exact iteT q
theorem vx_and {ta tb : TE} {σ : St} {H : Hp} {a b : Bool} (h1 : Vx ta σ H (.bl a)) (h2 : Vx tb σ H (.bl b)) : Vx (tAndV ta tb) σ H (.bl (a && b)) := by
  intro Q q
  refine h1 _ ⟨a, rfl, ?_⟩
  cases a
  · exact iteF q
  · exact iteT (h2 _ q)
theorem sq_asgB {te : TE} {g : TG} {tz : TS} {D : Ends} {σ : St} {H : Hp} (h : ∀ Q : VK, (∀ b : Bool, Q (.bl b) H) → te σ H Q) (k : ∀ b : Bool, g (.bl b) σ H (tz D)) : tSeq (tAsg te g) tz D σ H := h _ k
section
variable {P : Program} {w : World} {K : PySem.W.Frag} {mg : Str → Option Value} {base : Heap} {f : Addr} {fd : FuncData}
def spFill : Sp := fun vs H Q _ => ∃ (st c : Addr), vs = [.ref st] ∧ StAt H st c ∧ ∀ H', StAt H' st c → Kp st H H' → Q .non H'
abbrev s_fill : Stmt := top 17
theorem sc_fill : FnScope ["_law_state", "_law_cells", "_law_nth", "_law_seed", "_law_k", "_law_prime", "_law_far"] ["_law_state"] (defScope s_fill) := ⟨rfl, rfl, rfl, by decide +kernel, rfl, by decide +kernel, by decide +kernel⟩
theorem ok_fill (F : Fun K "_law_fill" "_law_fill" s_fill f fd) (T : Blt mg) : FnOk P w K mg base CX0 1 f fd ["_law_state"] spFill := by
  refine F.ok sc_fill (fun vs H Q E h => ?_) (fun cdv A outer s H vs Q E hr h => ?_)
  · obtain ⟨st, c, rfl, _⟩ := h
    rfl
  · obtain ⟨st, c, rfl, S, k⟩ := h
    obtain ⟨⟨n, l, b, h1⟩, ⟨ns, h2, hl⟩, ne⟩ := id S
    refine ⟨_, (pss_cons (ps_par (i := 1) (j := 2) (by rfl) sc_fill.nd rfl rfl (by decide) rfl rfl (pa_cons (pe_ix ix_list (pv 0) pe_int (fun _ _ => rfl)) (pa_cons (pe_ix ix_list (pv 0) pe_int (fun _ _ => rfl)) pa_nil)) (by rfl))
        (pss_cons (ps_set (i := 3) sc_fill.nd rfl (by first | exact Or.inl rfl | exact Or.inr rfl) (pe_op op_add (pe_op op_mul pe_int (pv 2)) pe_int))
        (Evl.pss_cut (ps_if (pt_cmpR op_gt (pe_callB call_len_seq (by rfl) T.b_len PySem.boot_len (pa_cons (pv 1) pa_nil)) pe_int (nomark _)) (pss_one (ps_set (i := 3) sc_fill.nd rfl (by first | exact Or.inl rfl | exact Or.inr rfl) (pe_op op_add (pe_op op_mul pe_int (pe_op op_fdivN (pv 2) (pe_callB call_len_seq (by rfl) T.b_len PySem.boot_len (pa_cons (pv 1) pa_nil)))) (pe_ix ix_list (pv 1) (pe_op op_modN (pe_callTy call_int1 (by rfl) T.b_int (by decide +kernel) (pa_cons (pv 2) pa_nil)) (pe_callB call_len_seq (by rfl) T.b_len PySem.boot_len (pa_cons (pv 1) pa_nil))) (fun _ _ => rfl))))) pss_nil)
        (pss_cons (ps_asg (pe_op op_add (pv 2) pe_int) (pg_sub (pv 0) pe_int set_list))
        (pss_cons (ps_asg (pe_or (pe_cmpR op_ge (pv 2) (pe_callB call_len_seq (by rfl) T.b_len PySem.boot_len (pa_cons (pv 1) pa_nil)) (nomark _)) (pe_one (pe_cmpR op_lt (pv 3) (pe_op op_pow pe_int pe_int) (nomark _)))) (pg_sub (pv 0) pe_int set_list))
        (pss_cons (ps_asg (pe_op op_sub (pv 3) (pe_op op_pow pe_int pe_int)) (pg_sub (pv 0) pe_int set_list))
        (pss_one (ps_if (pt_val (pe_ix ix_list (pv 0) pe_int (fun _ _ => rfl))) (pss_cons (ps_asg pe_int (pg_sub (pv 0) pe_int set_list))
        (pss_one (ps_for PassesOwn.never rfl (pi_enumA rfl T.b_enumerate (pa_cons (pe_tup (pa_cons pe_int (pa_cons pe_int (pa_cons pe_int (pa_cons pe_int (pa_cons pe_int pa_nil)))))) pa_nil)) (pg_tup rfl (pgs_cons (pg_name (i := 4) sc_fill.nd rfl (by first | exact Or.inl rfl | exact Or.inr rfl)) (pgs_cons (pg_name (i := 5) sc_fill.nd rfl (by first | exact Or.inl rfl | exact Or.inr rfl)) pgs_nil))) (pss_cons (ps_set (i := 6) sc_fill.nd rfl (by first | exact Or.inl rfl | exact Or.inr rfl) (pe_op op_modN (pe_callTy call_int1 (by rfl) T.b_int (by decide +kernel) (pa_cons (pe_op op_mul (pe_op op_add (pe_op op_add (pv 3) (pe_op op_mul (pe_op op_mul pe_int (pv 4)) (pv 4))) (pe_op op_mul pe_int (pv 4))) (pe_op op_add pe_int (pe_op op_mul pe_int (pv 4)))) pa_nil)) (pv 5)))
        (pss_one (ps_asg (pe_op op_add (pe_op op_mul (pe_ix ix_list (pv 0) pe_int (fun _ _ => rfl)) (pv 5)) (pe_op op_modN (pe_callTy call_int1 (by rfl) T.b_int (by decide +kernel) (pa_cons (pe_op op_pow (pv 6) pe_int) pa_nil)) (pv 5))) (pg_sub (pv 0) pe_int set_list))))))) pss_nil)))))))), ?_⟩
    refine ⟨_, rfl, _, _, _, _, rfl, rfl, SqL.of h1, rfl, _, rfl, _, _, _, _, rfl, rfl, SqL.of h1, rfl, _, _, rfl, ?_⟩
    refine ⟨_, rfl, _, _, rfl, rfl, .inl ⟨by decide, by decide⟩, _, _, rfl, rfl, ?_⟩
    refine ⟨fun σ' H' => H = H' ∧ ∃ seed : Int, σ' = [some (.ref st), some (.ref c), some (.int n), some (.int seed), none, none, none], ?_, ?_⟩
    · refine ⟨_, rfl, _, _, rfl, .inl (SqL.of h2), _, _, rfl, rfl, _, rfl, ite2 (fun hp => ?_) (fun _ => ⟨rfl, _, rfl⟩)⟩
      have e : (ns.map V.int).length = ns.length := List.length_map ..
      have hp : 0 < ns.length := by
        have hp := of_decide_eq_true hp
        rw [e] at hp; omega
      refine ⟨_, rfl, _, rfl, _, _, rfl, .inl (SqL.of h2), _, _, rfl, rfl, ⟨by rw [e]; omega, by rw [e]; omega⟩, _, _, rfl, rfl, .inl ⟨by decide, by decide⟩, ?_⟩
      obtain ⟨m1, m2⟩ := fmod_bd n (p := ((ns.map V.int).length : Int)) (by rw [e]; omega)
      have hj : (Int.fmod n ((ns.map V.int).length : Int)).toNat < ns.length := by rw [e] at m1 m2 ⊢; omega
      refine ⟨_, rfl, _, rfl, .inl ⟨_, rfl, _, rfl, _, _, rfl, .inl (SqL.of h2), _, _, rfl, rfl, by rw [e]; omega, _, _, _, _, rfl, rfl, SqL.of h2, at_of (j := (Int.fmod n ((ns.map V.int).length : Int)).toNat) (Int.toNat_of_nonneg m1).symm (by rw [List.getElem?_map, List.getElem?_eq_getElem hj]; rfl), _, _, rfl, rfl, ⟨rfl, _, rfl⟩⟩⟩
    · rintro σ' H' ⟨rfl, seed, rfl⟩
      refine ⟨_, rfl, _, _, rfl, rfl, _, rfl, _, _, _, _, rfl, rfl, h1, rfl, ?_⟩
      generalize hH1 : upd H st _ = H1
      have g1 : H1 st = some (.lst [.ref c, .int (n + 1), .int l, .bl b]) := by rw [← hH1]; exact upd_same
      have g2 : H1 c = some (.lst (ns.map V.int)) := by rw [← hH1, upd_ne ne]; exact h2
      have kp1 : Kp st H H1 := by rw [← hH1]; exact Kp.upd _ _ _
      clear hH1
      -- far or not
      dsimp only
      refine sq_asgB (fun Q q => ?_) fun b' => ?_
      · refine ⟨_, rfl, _, rfl, _, _, rfl, .inl (SqL.of g2), _, _, rfl, rfl, _, rfl, ite2 (fun _ => q true) (fun _ => ?_)⟩
        exact ⟨_, rfl, _, _, rfl, rfl, ⟨by decide, by decide, by decide⟩, _, _, rfl, rfl, q _⟩
      refine ⟨_, rfl, _, _, _, _, rfl, rfl, g1, rfl, ?_⟩
      generalize hH2 : upd H1 st _ = H2
      have g3 : H2 st = some (.lst [.ref c, .int (n + 1), .int l, .bl b']) := by rw [← hH2]; exact upd_same
      have g4 : H2 c = some (.lst (ns.map V.int)) := by rw [← hH2, upd_ne ne]; exact g2
      have kp2 : Kp st H H2 := by rw [← hH2]; exact kp1.trans (Kp.upd _ _ _)
      clear hH2
      refine ⟨_, rfl, _, _, rfl, rfl, ⟨by decide, by decide, by decide⟩, _, _, rfl, rfl, _, rfl, _, _, _, _, rfl, rfl, g3, rfl, ?_⟩
      generalize hH3 : upd H2 st _ = H3
      obtain ⟨l3, g5⟩ : ∃ l3, H3 st = some (.lst [.ref c, .int (n + 1), .int l3, .bl b']) := ⟨_, by rw [← hH3]; exact upd_same⟩
      have g6 : H3 c = some (.lst (ns.map V.int)) := by rw [← hH3, upd_ne ne]; exact g4
      have kp3 : Kp st H H3 := by rw [← hH3]; exact kp2.trans (Kp.upd _ _ _)
      clear hH3
      refine ⟨_, rfl, _, _, _, _, rfl, rfl, SqL.of g5, rfl, _, rfl, ite2 (fun _ => ?_) (fun _ => k _ ⟨⟨_, _, _, g5⟩, ⟨ns, g6, hl⟩, ne⟩ kp3)⟩
      refine ⟨_, rfl, _, _, _, _, rfl, rfl, g5, rfl, ?_⟩
      generalize hH4 : upd H3 st _ = H4
      have g7 : H4 st = some (.lst [.ref c, .int (n + 1), .int 0, .bl b']) := by rw [← hH4]; exact upd_same
      have g8 : H4 c = some (.lst (ns.map V.int)) := by rw [← hH4, upd_ne ne]; exact g6
      have kp4 : Kp st H H4 := by rw [← hH4]; exact kp3.trans (Kp.upd _ _ _)
      clear hH4
      refine ⟨by show 5 ≤ sizeLine; decide, fun t nt => ?_⟩
      have hts : t ≠ st := (ne_of_none g7 nt).symm
      have htc : t ≠ c := (ne_of_none g8 nt).symm
      refine ⟨t, _, rfl, .inr ⟨SqT.of upd_same, for_it (walk_enumT (K := K) (xs := [V.int 2147483647, V.int 2147483629, V.int 2147483587, V.int 2147483579, V.int 2147483563])) (fun i σ' H' => ∃ (u v x : Option V) (l' : Int), σ' = [some (.ref st), some (.ref c), some (.int n), some (.int seed), u, v, x] ∧ Kp st (upd H4 t (.tup [V.int 2147483647, V.int 2147483629, V.int 2147483587, V.int 2147483579, V.int 2147483563])) H' ∧ H' st = some (.lst [.ref c, .int (n + 1), .int l', .bl b'])) ?_ ?_ ?_ ?_⟩⟩
      · exact ⟨_, _, _, _, rfl, Kp.refl _ _, by rw [upd_ne hts.symm]; exact g7⟩
      · rintro i σ' H' _ ⟨u, v, x, l', rfl, e, _⟩
        exact SqT.of (e _ _ hts upd_same)
      · rintro i y σ' H' H'' hi ⟨u, v, x, l', rfl, e, e2⟩ ⟨T, x1, x2, rfl, nT, rfl, hx1, hx2⟩
        obtain ⟨pr, rfl, pr0, pr1⟩ : ∃ pr : Int, x2 = .int pr ∧ 0 < pr ∧ pr < 2147483648 := by
          have hm := mem_at hx2
          simp only [List.mem_cons, List.not_mem_nil, or_false] at hm
          rcases hm with rfl | rfl | rfl | rfl | rfl <;> exact ⟨_, rfl, by decide, by decide⟩
        cases (Option.some.inj hx1)
        have hi : i < 5 := hi
        have hTs : T ≠ st := (ne_of_none e2 nT).symm
        refine ⟨T, _, rfl, SqT.of upd_same, rfl, _, _, rfl, _, _, rfl, rfl, ?_⟩
        refine ⟨_, rfl, _, rfl, _, _, rfl, rfl, .inl ⟨by decide, by decide⟩, _, rfl, _, _, rfl, rfl, .inr ⟨by omega, by omega⟩, _, _, rfl, rfl, ?_⟩
        refine ⟨_, rfl, _, _, rfl, rfl, .inl ⟨by decide, by decide⟩, _, _, rfl, rfl, _, rfl, _, _, rfl, rfl, .inl ⟨by decide, by decide⟩, _, _, rfl, rfl, _, _, rfl, rfl, .inr ⟨by omega, by omega⟩, ?_⟩
        refine .inl ⟨_, rfl, _, rfl, _, _, rfl, rfl, by omega, ?_⟩
        generalize hfar : Int.fmod _ pr = far
        have hfar2 := fmod_bd (((seed + 10007 * (i : Int) * (i : Int) + 101 * (i : Int)) * (48271 + 2 * (i : Int)))) pr0
        rw [hfar] at hfar2
        refine ⟨_, rfl, _, _, _, _, rfl, rfl, SqL.of (by rw [upd_ne hTs.symm]; exact e2), rfl, _, rfl, _, _, rfl, rfl, .inr ⟨by omega, by omega⟩, ?_⟩
        refine ⟨_, rfl, _, _, rfl, rfl, ⟨by decide, by decide, by omega⟩, .inl ⟨_, rfl, _, rfl, _, _, rfl, rfl, by omega, _, _, rfl, rfl, _, rfl, _, _, _, _, rfl, rfl, by rw [upd_ne hTs.symm]; exact e2, rfl, ?_⟩⟩
        refine ⟨_, _, _, _, rfl, (e.trans (Kp.of (Same.upd' nT))).trans (Kp.upd _ _ _), upd_same⟩
      · rintro σ' H' ⟨u, v, x, l', rfl, e, e2⟩
        exact k _ ⟨⟨_, _, _, e2⟩, ⟨ns, e _ _ ne (by rw [upd_ne htc.symm]; exact g8), hl⟩, ne⟩ ((kp4.trans (Kp.of (Same.upd' nt))).trans e)
end
end Lm

namespace Lm
open PySem L2
/-! ### what is wanted may be weakened -/
def MonE (te : TE) : Prop := ∀ σ H (Q Q' : VK), (∀ v H1, Q v H1 → Q' v H1) → te σ H Q → te σ H Q'
def MonT (tt : TT) : Prop := ∀ σ H (Q Q' : Bool → Hp → Prop), (∀ b H1, Q b H1 → Q' b H1) → tt σ H Q → tt σ H Q'
def MonR (r : R2) : Prop := ∀ x y H (Q Q' : VK), (∀ v H1, Q v H1 → Q' v H1) → r x y H Q → r x y H Q'
theorem monE_var {i : Nat} : MonE (tVar i) := fun σ H Q Q' h ⟨v, e, q⟩ => ⟨v, e, h _ _ q⟩
theorem monE_c {v : V} : MonE (tC v) := fun σ H Q Q' h q => h _ _ q
theorem monE_op {r : R2} {ta tb : TE} (hr : MonR r) (ha : MonE ta) (hb : MonE tb) : MonE (tOp r ta tb) := fun σ H Q Q' h q => ha _ _ _ _ (fun x H1 q => hb _ _ _ _ (fun y H2 q => hr _ _ _ _ _ h q) q) q
theorem mon_I0 {g : Int → Int → V} : MonR (rI0 g) := fun x y H Q Q' h ⟨i, j, e1, e2, q⟩ => ⟨i, j, e1, e2, h _ _ q⟩
theorem mon_I {C : Int → Int → Prop} {g : Int → Int → V} : MonR (rI C g) := fun x y H Q Q' h ⟨i, j, e1, e2, c, q⟩ => ⟨i, j, e1, e2, c, h _ _ q⟩
theorem mon_ixL {K : PySem.W.Frag} : MonR (rIxL K) := fun x y H Q Q' h ⟨p, xs, i, v, e1, e2, e3, e4, q⟩ => ⟨p, xs, i, v, e1, e2, e3, e4, h _ _ q⟩
theorem mon_eq : MonR rEq := fun x y H Q Q' h ⟨e, q⟩ => ⟨e, h _ _ q⟩
theorem monT_test {te : TE} (he : MonE te) : MonT (tTest te) := fun σ H Q Q' h q => he _ _ _ _ (fun x H1 ⟨k, e, q⟩ => ⟨k, e, h _ _ q⟩) q
theorem monT_B {te : TE} (he : MonE te) : MonT (tB te) := fun σ H Q Q' h q => he _ _ _ _ (fun x H1 ⟨k, e, q⟩ => ⟨k, e, h _ _ q⟩) q
theorem monT_and {t u : TT} (ht : MonT t) (hu : MonT u) : MonT (tAnd t u) := fun σ H Q Q' h q => ht _ _ _ _ (fun b H1 q => by cases b with | true => exact hu _ _ _ _ h q | false => exact h _ _ q) q
theorem monT_or {t u : TT} (ht : MonT t) (hu : MonT u) : MonT (tOr t u) := fun σ H Q Q' h q => ht _ _ _ _ (fun b H1 q => by cases b with | true => exact h _ _ q | false => exact hu _ _ _ _ h q) q
section
variable {P : Program} {w : World} {K : PySem.W.Frag} {mg : Str → Option Value} {base : Heap} {f : Addr} {fd : FuncData}
def spTake : Sp := fun vs H Q _ => ∃ (st c : Addr) (m : Int), vs = [.ref st, .int m] ∧ StAt H st c ∧ 0 < m ∧ m < 1073741824 ∧ ∀ d H', 0 ≤ d → d < m → StAt H' st c → Kp st H H' → Q (.int d) H'
abbrev s_take : Stmt := top 18
theorem sc_take : FnScope ["_law_state", "_law_many", "_law_laps", "_law_digit"] ["_law_state", "_law_many"] (defScope s_take) := ⟨rfl, rfl, rfl, by decide +kernel, rfl, by decide +kernel, by decide +kernel⟩
theorem ok_take {fF : Addr} {fdF : FuncData} (F : Fun K "_law_take" "_law_take" s_take f fd) (T : Blt mg) (D_fill : DefOk P w K mg base 1 "_law_fill" fF fdF ["_law_state"] spFill) : FnOk P w K mg base CX0 2 f fd ["_law_state", "_law_many"] spTake := by
  refine F.ok sc_take (fun vs H Q E h => ?_) (fun cdv A outer s H vs Q E hr h => ?_)
  · obtain ⟨st, c, m, rfl, _⟩ := h
    rfl
  · obtain ⟨st, c, m, rfl, S, m0, m1, k⟩ := h
    refine ⟨_, (pss_cons (ps_set (i := 2) sc_take.nd rfl (by first | exact Or.inl rfl | exact Or.inr rfl) pe_int)
        (pss_cons (ps_while PassesOwn.never (PW.pt (pw_and (pt_cmpR op_lt (pv 2) pe_int (nomark _)) (pw_and1 (PW.pt (pw_or (pt_cmpR op_eq (pe_ix ix_list (pv 0) pe_int (fun _ _ => rfl)) pe_int (nomark _)) (pw_or1 (PW.pt (pw_and (pt_val (pe_ix ix_list (pv 0) pe_int (fun _ _ => rfl))) (pw_and1 (pt_cmpR op_lt (pe_ix ix_list (pv 0) pe_int (fun _ _ => rfl)) (pe_op op_mul (pv 1) pe_int) (nomark _))))))))))) (pss_cons (ps_expr (pe_d D_fill (hr.mono (by decide)) (pa_cons (pv 0) pa_nil)))
        (pss_cons (ps_aug (i := 2) sc_take.nd rfl (by first | exact Or.inl rfl | exact Or.inr rfl) pe_int ip_add)
        (pss_one (ps_if (PW.pt (pw_and (pt_val (pe_ix ix_list (pv 0) pe_int (fun _ _ => rfl))) (pw_and1 (pt_cmpR op_lt (pe_ix ix_list (pv 0) pe_int (fun _ _ => rfl)) (pe_op op_mul (pv 1) pe_int) (nomark _))))) (pss_one (ps_asg (pe_op op_add (pe_ix ix_list (pv 0) pe_int (fun _ _ => rfl)) (pe_op op_mul (pe_op op_mul (pv 1) pe_int) (pe_op op_add pe_int (pe_op op_modN (pe_callTy call_int1 (by rfl) T.b_int (by decide +kernel) (pa_cons (pe_ix ix_list (pv 0) pe_int (fun _ _ => rfl)) pa_nil)) pe_int)))) (pg_sub (pv 0) pe_int set_list))) pss_nil)))))
        (pss_cons (ps_set (i := 3) sc_take.nd rfl (by first | exact Or.inl rfl | exact Or.inr rfl) (pe_op op_modN (pe_callTy call_int1 (by rfl) T.b_int (by decide +kernel) (pa_cons (pe_ix ix_list (pv 0) pe_int (fun _ _ => rfl)) pa_nil)) (pv 1)))
        (pss_cons (ps_asg (pe_op op_fdivN (pe_ix ix_list (pv 0) pe_int (fun _ _ => rfl)) (pv 1)) (pg_sub (pv 0) pe_int set_list))
        (pss_one (ps_ret (pv 3))))))), ?_⟩
    refine while_by (fun σ' H' => ∃ (i : Nat), σ' = [some (.ref st), some (.int m), some (.int (i : Int)), none] ∧ i ≤ 64 ∧ StAt H' st c ∧ Kp st H H') (fun σ' _ => match σ' with | [_, _, some (.int i), _] => (64 - i).toNat | _ => 0) ⟨0, rfl, by decide, S, Kp.refl _ _⟩ ?_ ?_
    · rintro σ' H' ⟨i, rfl, hi, S', e⟩
      obtain ⟨⟨n, l, b, h1⟩, ⟨ns, h2, hl⟩, ne⟩ := id S'
      -- behind the loop
      have after : tSeq (tAsg (tOp (rI (fun x j => j ≠ 0) fun i j => V.int (i.fmod j)) (tCB (fun xs H Q => (∃ i, xs = [V.int i] ∧ Q (V.int i) H) ∨ ∃ k, xs = [V.bl k] ∧ Q (V.int (if k = true then 1 else 0)) H) (tCons (tOp (rIxL K) (tVar 0) (tC (.int 2))) tNil)) (tVar 1)) (gName 3))
          (tSeq (tAsg (tOp (rI CDivN fun i j => .int (i.fdiv j)) (tOp (rIxL K) (tVar 0) (tC (.int 2))) (tVar 1)) (gSub (tVar 0) (tC (.int 2)) rSetL)) (tRet (tVar 3))) { nx := fun _ H' => Q .non H', rt := Q } [some (.ref st), some (.int m), some (.int (i : Int)), none] H' := by
        refine ⟨_, rfl, _, _, _, _, rfl, rfl, SqL.of h1, rfl, .inl ⟨_, rfl, _, rfl, _, _, rfl, rfl, by omega, ?_⟩⟩
        have hd := fmod_bd l m0
        refine ⟨_, rfl, _, _, _, _, rfl, rfl, SqL.of h1, rfl, _, rfl, _, _, rfl, rfl, ⟨by omega, by omega⟩, _, rfl, _, _, _, _, rfl, rfl, h1, rfl, _, rfl, ?_⟩
        exact k _ _ hd.1 hd.2 ⟨⟨_, _, _, upd_same⟩, ⟨ns, by rw [upd_ne ne]; exact h2, hl⟩, ne⟩ (e.trans (Kp.upd _ _ _))
      refine ⟨_, rfl, _, _, rfl, rfl, _, rfl, ite2 (fun hc => ?_) (fun _ => iteF after)⟩
      have hc : i < 64 := by have := of_decide_eq_true hc; omega
      refine ⟨_, rfl, _, _, _, _, rfl, rfl, SqL.of h1, rfl, rfl, _, rfl, ite2 (fun _ => ?b1) (fun _ => ⟨_, rfl, _, _, _, _, rfl, rfl, SqL.of h1, rfl, _, rfl, ite2 (fun _ => ⟨_, rfl, _, _, _, _, rfl, rfl, SqL.of h1, rfl, _, rfl, _, _, rfl, rfl, .inr ⟨by decide, by decide⟩, _, _, rfl, rfl, _, rfl, ite2 (fun _ => ?b2) (fun _ => ?c1)⟩) (fun _ => ?c2)⟩)⟩
      case c1 => exact after
      case c2 => exact after
      all_goals
        refine ⟨_, rfl, st, c, rfl, S', fun H2 S2 e2 => ?_⟩
        obtain ⟨⟨n2, l2, b2, g1⟩, ⟨ns2, g2, gl⟩, _⟩ := id S2
        have fin : ∀ H3, StAt H3 st c → Kp st H2 H3 → (∃ j : Nat, [some (V.ref st), some (.int m), some (.int ((i : Int) + 1)), none] = [some (.ref st), some (.int m), some (.int (j : Int)), none] ∧ j ≤ 64 ∧ StAt H3 st c ∧ Kp st H H3) ∧ (64 - ((i : Int) + 1)).toNat < (64 - (i : Int)).toNat :=
          fun H3 S3 e3 => ⟨⟨i + 1, by simp, by omega, S3, (e.trans e2).trans e3⟩, by omega⟩
        refine ⟨_, rfl, _, _, rfl, rfl, ?_⟩
        refine ⟨_, rfl, _, _, _, _, rfl, rfl, SqL.of g1, rfl, _, rfl, ite2 (fun _ => ⟨_, rfl, _, _, _, _, rfl, rfl, SqL.of g1, rfl, _, rfl, _, _, rfl, rfl, .inr ⟨by decide, by decide⟩, _, _, rfl, rfl, _, rfl, ite2 (fun _ => ?_) (fun _ => fin _ S2 (Kp.refl _ _))⟩) (fun _ => fin _ S2 (Kp.refl _ _))⟩
        have hr2 := fmod_bd l2 (p := 4093) (by decide)
        refine ⟨_, rfl, _, _, _, _, rfl, rfl, SqL.of g1, rfl, _, rfl, _, _, rfl, rfl, .inr ⟨by decide, by decide⟩, _, rfl, _, _, _, _, rfl, rfl, SqL.of g1, rfl, .inl ⟨_, rfl, _, _, rfl, rfl, (by show (4093 : Int) ≠ 0; decide), _, _, rfl, rfl, _, _, rfl, rfl, .inr ⟨by omega, by omega⟩, _, _, rfl, rfl, _, rfl, _, _, _, _, rfl, rfl, g1, rfl, ?_⟩⟩
        exact fin _ ⟨⟨_, _, _, upd_same⟩, ⟨ns2, by rw [upd_ne ne]; exact g2, gl⟩, ne⟩ (Kp.upd _ _ _)
    · exact monT_and (monT_test (monE_op mon_I0 (monE_var) (monE_c))) (monT_or (monT_test (monE_op mon_eq (monE_op mon_ixL monE_var monE_c) monE_c)) (monT_and (monT_B (monE_op mon_ixL monE_var monE_c)) (monT_test (monE_op mon_I0 (monE_op mon_ixL monE_var monE_c) (monE_op mon_I monE_var monE_c)))))
end
end Lm

namespace Lm
open PySem L2
section
variable {P : Program} {w : World} {K : PySem.W.Frag} {mg : Str → Option Value} {base : Heap} {f : Addr} {fd : FuncData}
def spOneA (K : PySem.W.Frag) : Sp := fun vs H Q _ => ∃ (st c t : Addr) (xs : List V), vs = [.ref st, .ref t] ∧ StAt H st c ∧ t ≠ st ∧ (SqL K H t xs ∨ SqT K H t xs) ∧ 0 < xs.length ∧ xs.length < 1073741824 ∧ ∀ v H', v ∈ xs → StAt H' st c → Kp st H H' → Q v H'
def spOne (K : PySem.W.Frag) : Sp := fun vs H Q _ => ∃ (st c t : Addr) (xs : List V), vs = [.ref st, .ref t] ∧ StAt H st c ∧ t ≠ st ∧ SqT K H t xs ∧ 0 < xs.length ∧ xs.length < 1073741824 ∧ ∀ v H', v ∈ xs → StAt H' st c → Kp st H H' → Q v H'
abbrev s_one : Stmt := top 19
theorem sc_one : FnScope ["_law_state", "_law_things"] ["_law_state", "_law_things"] (defScope s_one) := ⟨rfl, rfl, rfl, by decide +kernel, rfl, by decide +kernel, by decide +kernel⟩
theorem ok_oneA {fT : Addr} {fdT : FuncData} (F : Fun K "_law_one" "_law_one" s_one f fd) (T : Blt mg) (D_take : DefOk P w K mg base 2 "_law_take" fT fdT ["_law_state", "_law_many"] spTake) : FnOk P w K mg base CX0 3 f fd ["_law_state", "_law_things"] (spOneA K) := by
  refine F.ok sc_one (fun vs H Q E h => ?_) (fun cdv A outer s H vs Q E hr h => ?_)
  · obtain ⟨st, c, t, xs, rfl, _⟩ := h
    rfl
  · obtain ⟨st, c, t, xs, rfl, S, hts, hq, l0, l1, k⟩ := h
    refine ⟨_, (pss_one (ps_ret (pe_ix ix_seq (pv 1) (pe_d D_take (hr.mono (by decide)) (pa_cons (pv 0) (pa_cons (pe_callB call_len_seq (by rfl) T.b_len PySem.boot_len (pa_cons (pv 1) pa_nil)) pa_nil))) (fun _ _ => rfl)))), ?_⟩
    refine ⟨_, rfl, _, rfl, _, rfl, _, _, rfl, hq, st, c, _, rfl, S, by omega, by omega, fun d H' d0 d1 S' e => ?_⟩
    have hd : d.toNat < xs.length := by omega
    have at_ := at_of (Int.toNat_of_nonneg d0).symm (List.getElem?_eq_getElem hd)
    have fin := k _ _ (List.getElem_mem hd) S' e
    rcases hq with hq | hq
    · exact .inl ⟨t, xs, d, _, rfl, rfl, e.seqL hts hq, at_, fin⟩
    · exact .inr (.inl ⟨t, xs, d, _, rfl, rfl, e.seqT hts hq, at_, fin⟩)
theorem ok_one {fT : Addr} {fdT : FuncData} (F : Fun K "_law_one" "_law_one" s_one f fd) (T : Blt mg) (D_take : DefOk P w K mg base 2 "_law_take" fT fdT ["_law_state", "_law_many"] spTake) : FnOk P w K mg base CX0 3 f fd ["_law_state", "_law_things"] (spOne K) :=
  (ok_oneA F T D_take).imp fun vs H Q E ⟨st, c, t, xs, h1, h2, h3, h4, h5, h6, h7⟩ => ⟨st, c, t, xs, h1, h2, h3, .inr h4, h5, h6, h7⟩
/-! ### the words -/
def sg (c : Nat) : Str := ⟨#[c]⟩
def two (c d : Nat) : Str := ⟨#[c, d]⟩
def row2 (c : Nat) : List Str := [103, 104, 105, 106, 107, 108, 109, 110, 111, 112].map (two c)
def w0 : List Str := ["a", "b", "k", "zz", "abcdefgh"]
def allW : List Str := w0 ++ [97, 98, 99, 100, 101, 102].flatMap row2
theorem two_eq (c d : Nat) : sg c ++ sg d = two c d := rfl
theorem len1 (c : Nat) : (sg c).length = 1 := rfl
def spAllW : Sp := fun vs H Q _ => vs = [] ∧ ∀ p H', H p = none → Same H H' → H' p = some (.lst (allW.map V.str)) → Q (.ref p) H'
theorem sixL : ("abcdef" : Str).cps = #[97, 98, 99, 100, 101, 102] := by decide +kernel
theorem tenL : ("ghijklmnop" : Str).cps = #[103, 104, 105, 106, 107, 108, 109, 110, 111, 112] := by decide +kernel
end
end Lm

namespace Lm
open PySem L2 Evl RZ
structure EdIsi (K : PySem.W.Frag) (mg : Str → Option Value) (C : Addr) : Prop where
  g_Edition : mg "Edition" = some (.ref C)
  ha : PySem.W.findIn K (.ref C) "__class__" = some (some (.builtin "object.__class__"))
  hn : PySem.W.specialIn K (.builtin "object.__class__") "__get__" = some (some (.builtin "getset_descriptor.__get__"))
  htk : PySem.W.takesIn K (.builtin "object.__class__") = some true
  hm : PySem.W.mroIn K C (.type "object") = some true
  ko : PySem.W.kitOne K (.ref C) (.ref C) = some true
/-! ### two things that are the same, of depth below d -/
def SameV (H : Hp) : Nat → V → V → Prop
  | 0 => fun _ _ => False
  | d + 1 => fun x y => (∃ i, x = .int i ∧ y = .int i) ∨ (∃ b, x = .bl b ∧ y = .bl b) ∨ (∃ s, x = .str s ∧ y = .str s) ∨ (x = .non ∧ y = .non) ∨
    (∃ a b xs ys, x = .ref a ∧ y = .ref b ∧ H a = some (.lst xs) ∧ H b = some (.lst ys) ∧ xs.length = ys.length ∧ xs.length ≤ 40000 ∧ ∀ (i : Nat) u v, xs[i]? = some u → ys[i]? = some v → SameV H d u v) ∨
    (∃ a b xs ys, x = .ref a ∧ y = .ref b ∧ H a = some (.tup xs) ∧ H b = some (.tup ys) ∧ xs.length = ys.length ∧ xs.length ≤ 40000 ∧ ∀ (i : Nat) u v, xs[i]? = some u → ys[i]? = some v → SameV H d u v)
theorem SameV.ex {H H' : Hp} (e : Ex H H') : ∀ {d : Nat} {x y : V}, SameV H d x y → SameV H' d x y
  | 0, _, _, h => h
  | d + 1, x, y, h => by
    rcases h with h | h | h | h | ⟨a, b, xs, ys, rfl, rfl, ha, hb, h1, h2, h3⟩ | ⟨a, b, xs, ys, rfl, rfl, ha, hb, h1, h2, h3⟩
    · exact .inl h
    · exact .inr (.inl h)
    · exact .inr (.inr (.inl h))
    · exact .inr (.inr (.inr (.inl h)))
    · exact .inr (.inr (.inr (.inr (.inl ⟨a, b, xs, ys, rfl, rfl, e _ _ ha, e _ _ hb, h1, h2, fun i u v q1 q2 => SameV.ex e (h3 i u v q1 q2)⟩))))
    · exact .inr (.inr (.inr (.inr (.inr ⟨a, b, xs, ys, rfl, rfl, e _ _ ha, e _ _ hb, h1, h2, fun i u v q1 q2 => SameV.ex e (h3 i u v q1 q2)⟩))))
theorem SameV.int {H : Hp} {d : Nat} (i : Int) : SameV H (d + 1) (.int i) (.int i) := .inl ⟨i, rfl, rfl⟩
theorem SameV.bl {H : Hp} {d : Nat} (i : Bool) : SameV H (d + 1) (.bl i) (.bl i) := .inr (.inl ⟨i, rfl, rfl⟩)
theorem SameV.str {H : Hp} {d : Nat} (i : Str) : SameV H (d + 1) (.str i) (.str i) := .inr (.inr (.inl ⟨i, rfl, rfl⟩))
theorem SameV.non {H : Hp} {d : Nat} : SameV H (d + 1) .non .non := .inr (.inr (.inr (.inl ⟨rfl, rfl⟩)))
theorem SameV.lst {H : Hp} {d : Nat} {a b : Addr} {xs ys : List V} (ha : H a = some (.lst xs)) (hb : H b = some (.lst ys)) (h1 : xs.length = ys.length) (h2 : xs.length ≤ 40000) (h3 : ∀ (i : Nat) u v, xs[i]? = some u → ys[i]? = some v → SameV H d u v) : SameV H (d + 1) (.ref a) (.ref b) :=
  .inr (.inr (.inr (.inr (.inl ⟨a, b, xs, ys, rfl, rfl, ha, hb, h1, h2, h3⟩))))
theorem SameV.tup {H : Hp} {d : Nat} {a b : Addr} {xs ys : List V} (ha : H a = some (.tup xs)) (hb : H b = some (.tup ys)) (h1 : xs.length = ys.length) (h2 : xs.length ≤ 40000) (h3 : ∀ (i : Nat) u v, xs[i]? = some u → ys[i]? = some v → SameV H d u v) : SameV H (d + 1) (.ref a) (.ref b) :=
  .inr (.inr (.inr (.inr (.inr ⟨a, b, xs, ys, rfl, rfl, ha, hb, h1, h2, h3⟩))))
/-- lists of flat things alike -/
theorem SameV.flat {H : Hp} {d : Nat} {a b : Addr} {xs : List V} (ha : H a = some (.lst xs)) (hb : H b = some (.lst xs)) (h2 : xs.length ≤ 40000) (h : ∀ x ∈ xs, SameV H (d + 1) x x) : SameV H (d + 2) (.ref a) (.ref b) :=
  .lst ha hb rfl h2 fun i u v q1 q2 => by
    rw [q1] at q2
    cases (Option.some.inj q2)
    exact h u (List.mem_of_getElem? q1)
theorem ok_none {P : Program} {w : World} {K : PySem.W.Frag} {mg : Str → Option Value} {base : Heap} {f : Addr} {fd : FuncData} {k : Nat} {ps : List Str} : FnOk P w K mg base CX0 k f fd ps (fun _ _ _ _ => False) :=
  ⟨fun _ _ _ _ h => h.elim, fun _ _ _ _ _ _ _ _ _ _ _ _ _ h => h.elim⟩
section
variable {K : PySem.W.Frag} {σ : L2.St} {H : Hp} {te : TE}
theorem ev_isi {x c : V} {t u : Value} {b : Bool} (h : Ev te σ H x) (hc : ClsV c u) (ht : ∀ H1, Ex H H1 → TyX K H1 x t) (hk : PySem.W.kitOne K t u = some b) : Ev (tCB (rIsi K) (tCons te (tCons (tC c) tNil))) σ H (.bl b) :=
  ev_cb (ea_cons h (ea_cons ev_c ea_nil)) fun H1 e Q q => ⟨x, c, t, u, b, rfl, hc, ht H1 e, hk, q H1 (Ex.refl _)⟩
theorem ev_isiT {x : V} {cs : List V} {t : Value} {us : List Value} {b : Bool} {ta : TA} (h : Ev te σ H x) (hcs : EvA ta σ H cs) (hl : cs.length ≤ 100000) (hc : Paired ClsV cs us) (ht : ∀ H1, Ex H H1 → TyX K H1 x t) (hk : PySem.W.kitAny K t us = some b) :
    Ev (tCB (rIsiT K) (tCons te (tCons (tTup ta) tNil))) σ H (.bl b) := fun H1 e Q q => h H1 e _ fun H2 e2 => hcs H2 (e.trans e2) _ fun H3 e3 => ⟨sz_of hl, fun p np =>
      ⟨x, p, cs, t, us, b, rfl, upd_same, hc, ht _ (((e.trans e2).trans e3).trans (Ex.new np)), hk, q _ ((e2.trans e3).trans (Ex.new np))⟩⟩
/-- over zip of two lists -/
theorem el_lcZ {a b : Addr} {xs ys : List V} {ta tb : TE} {i j : Nat} {vs : List Nat} (v : Nat → V) (ha : Ev ta σ H (.ref a)) (hb : Ev tb σ H (.ref b)) (hx : H a = some (.lst xs) ∧ H b = some (.lst ys) ∨ H a = some (.tup xs) ∧ H b = some (.tup ys)) (hl : xs.length = ys.length) (hz : xs.length ≤ 40000)
    (hw : ∀ x y, wipe (((wipe σ vs).set i (some x)).set j (some y)) vs = wipe σ vs) (he : ∀ (n : Nat) (x y : V) H1, Ex H H1 → xs[n]? = some x → ys[n]? = some y → Ev te (((wipe σ vs).set i (some x)).set j (some y)) H1 (v n)) :
    EvL (tLc (iZipA K (tCons ta (tCons tb tNil))) (gTup K 2 (gCons (gName i) (gCons (gName j) gNil))) tYes te vs) σ H ((List.range xs.length).map v) := fun H0 e Q q => ha H0 e _ fun H1 e1 => hb H1 (e.trans e1) _ fun H2 e2 => by
  have E := (e.trans e1).trans e2
  have hmin : xs.length = min xs.length ys.length := by omega
  have turn : ∀ (n : Nat) (z : V) (Hn Hn' : Hp) (D : Addr), n < xs.length → Cw H2 (fun _ => true) v D n Hn → YPair (fun i => xs[i]?) (fun i => ys[i]?) n Hn z Hn' →
      gTup K 2 (gCons (gName i) (gCons (gName j) gNil)) z (wipe σ vs) Hn' fun σ2 H2' => wipe σ2 vs = wipe σ vs ∧ tYes σ2 H2' fun b H3 => if b = true then te σ2 H3 fun y H4 => ∃ acc, H4 D = some (.lst acc) ∧ acc.length < sizeLine ∧ Cw H2 (fun _ => true) v D (n + 1) (upd H4 D (.lst (acc ++ [y]))) else Cw H2 (fun _ => true) v D (n + 1) H3 := by
    rintro n z Hn Hn' D hn p ⟨T', x, y, rfl, nT, rfl, hx1, hy1⟩
    refine ⟨T', _, rfl, SqT.of upd_same, rfl, _, _, rfl, _, _, rfl, rfl, hw x y, ?_⟩
    have p' : Cw H2 (fun _ => true) v D n (upd Hn T' (.tup [x, y])) := ⟨p.1, p.2.1.trans (Ex.new nT), by rw [upd_ne (ne_of_none p.2.2 nT)]; exact p.2.2⟩
    exact cw_turn (t := tYes) p' (by omega) (fun H1 _ _ q => q H1 (Ex.refl H1)) fun _ => he n x y H2 E hx1 hy1
  have fin : ∀ D H', Cw H2 (fun _ => true) v D xs.length H' → Q (.ref D) H' := fun D H' p => q D H' (fresh_back (e1.trans e2) p.1) ((e1.trans e2).trans p.2.1) (by
    rw [p.2.2]
    unfold given
    rw [List.filter_eq_self.mpr fun _ _ => rfl])
  refine ⟨a, b, xs, ys, rfl, ?_⟩
  rcases hx with ⟨h1, h2⟩ | ⟨h1, h2⟩
  · refine .inl ⟨sq_of (E _ _ h1), sq_of (E _ _ h2), fun D hD => lc_it (walk_zip hmin) (Cw H2 (fun _ => true) v D) ⟨hD, Ex.new hD, upd_same⟩ (fun n H' _ p => ⟨sq_of ((E.trans p.2.1) _ _ h1), sq_of ((E.trans p.2.1) _ _ h2)⟩) (fun n z Hn Hn' hn p y => turn n z Hn Hn' D hn p y) (fun H' p => fin D H' p)⟩
  · refine .inr ⟨st_of (E _ _ h1), st_of (E _ _ h2), fun D hD => lc_it (walk_zipT hmin) (Cw H2 (fun _ => true) v D) ⟨hD, Ex.new hD, upd_same⟩ (fun n H' _ p => ⟨st_of ((E.trans p.2.1) _ _ h1), st_of ((E.trans p.2.1) _ _ h2)⟩) (fun n z Hn Hn' hn p y => turn n z Hn Hn' D hn p y) (fun H' p => fin D H' p)⟩
theorem ev_lenL {p : Addr} {xs : List V} (ha : Ev te σ H (.ref p)) (h : H p = some (.lst xs)) : Ev (tCB (rLenS K) (tCons te tNil)) σ H (.int (xs.length : Int)) := ev_len ha (sq_of h)
theorem ev_lenT {p : Addr} {xs : List V} (ha : Ev te σ H (.ref p)) (h : H p = some (.tup xs)) : Ev (tCB (rLenS K) (tCons te tNil)) σ H (.int (xs.length : Int)) := ev_cb (ea_cons ha ea_nil) fun H1 e Q q => ⟨p, xs, rfl, .inr (st_of (e _ _ h)), q H1 (Ex.refl _)⟩
theorem ev_isB {x y : Bool} {ta tb : TE} (ha : Ev ta σ H (.bl x)) (hb : Ev tb σ H (.bl y)) : Ev (tOp rIsB ta tb) σ H (.bl (decide (x = y))) := ev_op ha hb fun H1 _ Q q => ⟨x, y, rfl, rfl, q H1 (Ex.refl _)⟩
theorem ev_all {bs : List Bool} (h : EvL te σ H (bs.map V.bl)) : Ev (tCB (rAll K) (tCons te tNil)) σ H (.bl (bs.all id)) := fun H1 e Q q =>
  h H1 e _ fun p H2 _ e2 hp => ⟨p, bs, rfl, sq_of hp, q H2 e2⟩
end
theorem kAny4 {K : PySem.W.Frag} {t : String} {c1 c2 c3 c4 : String} (h1 : kitB t c1 = some false) (h2 : kitB t c2 = some false) (h3 : kitB t c3 = some false) (h4 : kitB t c4 = some false) : PySem.W.kitAny K (.type t) [.type c1, .type c2, .type c3, .type c4] = some false :=
  kitAny_cons (kit_ty h1) (fun _ => kitAny_cons (kit_ty h2) (fun _ => kitAny_cons (kit_ty h3) (fun _ => kitAny_cons (kit_ty h4) (fun _ => rfl) (fun z => nomatch z)) (fun z => nomatch z)) (fun z => nomatch z)) (fun z => nomatch z)
theorem kAny2 {K : PySem.W.Frag} {t : String} {c1 c2 : String} (h1 : kitB t c1 = some false) (h2 : kitB t c2 = some false) : PySem.W.kitAny K (.type t) [.type c1, .type c2] = some false :=
  kitAny_cons (kit_ty h1) (fun _ => kitAny_cons (kit_ty h2) (fun _ => rfl) (fun z => nomatch z)) (fun z => nomatch z)
theorem kAnyL {K : PySem.W.Frag} : PySem.W.kitAny K (.type "list") [.type "list", .type "tuple"] = some true := kitAny_cons (b := true) (kit_ty (by decide +kernel)) (fun z => nomatch z) (fun _ => rfl)
theorem kAnyT {K : PySem.W.Frag} : PySem.W.kitAny K (.type "tuple") [.type "list", .type "tuple"] = some true := kitAny_cons (b := false) (kit_ty (by decide +kernel)) (fun _ => kitAny_cons (b := true) (kit_ty (by decide +kernel)) (fun z => nomatch z) (fun _ => rfl)) (fun z => nomatch z)
theorem pairT2 {c1 c2 : String} : Paired ClsV [V.ty c1, V.ty c2] [Value.type c1, Value.type c2] := .cons (.ty _) (.cons (.ty _) .nil)
theorem pairT4 {c1 c2 c3 c4 : String} : Paired ClsV [V.ty c1, V.ty c2, V.ty c3, V.ty c4] [Value.type c1, Value.type c2, Value.type c3, Value.type c4] := .cons (.ty _) (.cons (.ty _) (.cons (.ty _) (.cons (.ty _) .nil)))
section
variable {P : Program} {w : World} {K : PySem.W.Frag} {mg : Str → Option Value} {base : Heap} {f : Addr} {fd : FuncData}
def spSame (d : Nat) : Sp := fun vs H Q _ => ∃ x y, vs = [x, y] ∧ SameV H d x y ∧ ∀ H', Same H H' → Q (.bl true) H'
abbrev s_same : Stmt := top 20
theorem sc_same : FnScope ["_law_found", "_law_due_here", "_law_a", "_law_b"] ["_law_found", "_law_due_here"] (defScope s_same) := ⟨rfl, rfl, rfl, by decide +kernel, rfl, by decide +kernel, by decide +kernel⟩
theorem ok_same {d : Nat} (F : Fun K "_law_same" "_law_same" s_same f fd) (T : Blt mg) (D_same : DefOk P w K mg base d "_law_same" f fd ["_law_found", "_law_due_here"] (spSame d)) : FnOk P w K mg base CX0 (d + 1) f fd ["_law_found", "_law_due_here"] (spSame (d + 1)) := by
  refine F.ok sc_same (fun vs H Q E h => ?_) (fun cdv A outer s H vs Q E hr h => ?_)
  · obtain ⟨x, y, rfl, _⟩ := h
    rfl
  · obtain ⟨x, y, rfl, hxy, k⟩ := h
    have D_room : Room d _ := hr
    refine ⟨_, (pss_cons (ps_if (pt_val (pe_callB call_isiT (by rfl) T.b_isinstance (by decide +kernel) (pa_cons (pv 1) (pa_cons (pe_tup (pa_cons (pe_bltn (v := .ty "list") (u := .type "list") (by rfl) T.b_list (by decide +kernel) rfl) (pa_cons (pe_bltn (v := .ty "tuple") (u := .type "tuple") (by rfl) T.b_tuple (by decide +kernel) rfl) pa_nil))) pa_nil)))) (pss_cons (ps_if (PW.pt (pw_or (pt_cmpR op_ne (pe_callB call_isi (by rfl) T.b_isinstance (by decide +kernel) (pa_cons (pv 0) (pa_cons (pe_bltn (v := .ty "list") (u := .type "list") (by rfl) T.b_list (by decide +kernel) rfl) pa_nil))) (pe_callB call_isi (by rfl) T.b_isinstance (by decide +kernel) (pa_cons (pv 1) (pa_cons (pe_bltn (v := .ty "list") (u := .type "list") (by rfl) T.b_list (by decide +kernel) rfl) pa_nil))) (nomark _)) (pw_or1 (pt_cmpR op_ne (pe_callB call_isi (by rfl) T.b_isinstance (by decide +kernel) (pa_cons (pv 0) (pa_cons (pe_bltn (v := .ty "tuple") (u := .type "tuple") (by rfl) T.b_tuple (by decide +kernel) rfl) pa_nil))) (pe_callB call_isi (by rfl) T.b_isinstance (by decide +kernel) (pa_cons (pv 1) (pa_cons (pe_bltn (v := .ty "tuple") (u := .type "tuple") (by rfl) T.b_tuple (by decide +kernel) rfl) pa_nil))) (nomark _))))) (pss_one (ps_ret pe_bl)) pss_nil)
        (pss_one (ps_ret (pe_and (pe_cmpR op_eq (pe_callB call_len_seq (by rfl) T.b_len PySem.boot_len (pa_cons (pv 0) pa_nil)) (pe_callB call_len_seq (by rfl) T.b_len PySem.boot_len (pa_cons (pv 1) pa_nil)) (nomark _)) (pe_one (pe_callB (cr_all rfl) (by rfl) T.b_all (by decide +kernel) (by exact (pa_cons (pe_lc (own := [("_law_a", 2), ("_law_b", 3)]) (g := gTup K 2 (gCons (gName 2) (gCons (gName 3) gNil))) (tt := tYes) (te := (tCall (spSame d) [] E0 (tCons (tVar 2) (tCons (tVar 3) tNil)))) rfl sc_same.nd (pi_zipA rfl T.b_zip (pa_cons (pv 0) (pa_cons (pv 1) pa_nil))) (blkOk_by (own := [("_law_a", 2), ("_law_b", 3)]) (by kernel_rfl)) (fun _ _ _ _ _ => (pg_tup rfl (pgs_cons (pg_name (i := 2) sc_same.nd rfl (by first | exact Or.inl rfl | exact Or.inr rfl)) (pgs_cons (pg_name (i := 3) sc_same.nd rfl (by first | exact Or.inl rfl | exact Or.inr rfl)) pgs_nil)))) (fun _ _ _ _ _ => pts_nil) (fun _ _ _ _ _ => by exact (pe_d D_same D_room (pa_cons (pv 2) (pa_cons (pv 3) pa_nil))))) pa_nil)))))))) pss_nil)
        (pss_cons (ps_if (pt_val (pe_callB call_isi (by rfl) T.b_isinstance (by decide +kernel) (pa_cons (pv 1) (pa_cons (pe_bltn (v := .ty "int") (u := .type "int") (by rfl) T.b_int (by decide +kernel) rfl) pa_nil)))) (pss_one (ps_ret (pe_and (pe_callB call_isi (by rfl) T.b_isinstance (by decide +kernel) (pa_cons (pv 0) (pa_cons (pe_bltn (v := .ty "int") (u := .type "int") (by rfl) T.b_int (by decide +kernel) rfl) pa_nil))) (pe_and (pe_cmpR op_eq (pe_callB call_isi (by rfl) T.b_isinstance (by decide +kernel) (pa_cons (pv 0) (pa_cons (pe_bltn (v := .ty "bool") (u := .type "bool") (by rfl) T.b_bool (by decide +kernel) rfl) pa_nil))) (pe_callB call_isi (by rfl) T.b_isinstance (by decide +kernel) (pa_cons (pv 1) (pa_cons (pe_bltn (v := .ty "bool") (u := .type "bool") (by rfl) T.b_bool (by decide +kernel) rfl) pa_nil))) (nomark _)) (pe_one (pe_cmpR op_eq (pv 0) (pv 1) (nomark _))))))) pss_nil)
        (pss_one (ps_ret (pe_and (pe_cmpR op_isBl (pe_callB call_isiT (by rfl) T.b_isinstance (by decide +kernel) (pa_cons (pv 0) (pa_cons (pe_tup (pa_cons (pe_bltn (v := .ty "bool") (u := .type "bool") (by rfl) T.b_bool (by decide +kernel) rfl) (pa_cons (pe_bltn (v := .ty "int") (u := .type "int") (by rfl) T.b_int (by decide +kernel) rfl) (pa_cons (pe_bltn (v := .ty "list") (u := .type "list") (by rfl) T.b_list (by decide +kernel) rfl) (pa_cons (pe_bltn (v := .ty "tuple") (u := .type "tuple") (by rfl) T.b_tuple (by decide +kernel) rfl) pa_nil))))) pa_nil))) pe_bl (nomark _)) (pe_one (pe_cmpR op_eq (pv 0) (pv 1) (nomark _)))))))), ?_⟩
    have two : ∀ x : V, EvA (tCons (tC (.ty "list")) (tCons (tC (.ty "tuple")) tNil)) [some x, some y, none, none] H [.ty "list", .ty "tuple"] := fun _ => ea_cons ev_c (ea_cons ev_c ea_nil)
    rcases hxy with ⟨i, rfl, rfl⟩ | ⟨i, rfl, rfl⟩ | ⟨i, rfl, rfl⟩ | ⟨rfl, rfl⟩ | ⟨a, b, xs, ys, rfl, rfl, ha, hb, h1, h2, h3⟩ | ⟨a, b, xs, ys, rfl, rfl, ha, hb, h1, h2, h3⟩
    · refine q_when (et_B (ev_isiT (ev_var rfl) (ea_cons ev_c (ea_cons ev_c ea_nil)) (by decide) pairT2 (fun _ _ => .base (.int i)) (kAny2 (by decide +kernel) (by decide +kernel)))) (fun z => nomatch z) fun _ H1 e1 => ?_
      refine q_when (et_B (ev_isi (b := true) (ev_var rfl) (.ty _) (fun _ _ => .base (.int i)) (kit_ty (by decide +kernel)))) (fun _ H2 e2 => ?_) (fun z => nomatch z)
      refine s_ret (ev_is (ev_andV (ev_isi (b := true) (ev_var rfl) (.ty _) (fun _ _ => .base (.int i)) (kit_ty (by decide +kernel))) fun _ => ev_andV (ev_op (ev_isi (b := false) (ev_var rfl) (.ty _) (fun _ _ => .base (.int i)) (kit_ty (by decide +kernel))) (ev_isi (b := false) (ev_var rfl) (.ty _) (fun _ _ => .base (.int i)) (kit_ty (by decide +kernel))) (rv_eq rfl)) fun _ => ev_op (ev_var rfl) (ev_var rfl) (rv_eq rfl)) ?_) fun H3 e3 => k H3 (Ex.trans e1 (Ex.trans e2 e3))
      simp
    · refine q_when (et_B (ev_isiT (ev_var rfl) (ea_cons ev_c (ea_cons ev_c ea_nil)) (by decide) pairT2 (fun _ _ => .base (.bl i)) (kAny2 (by decide +kernel) (by decide +kernel)))) (fun z => nomatch z) fun _ H1 e1 => ?_
      refine q_when (et_B (ev_isi (b := true) (ev_var rfl) (.ty _) (fun _ _ => .base (.bl i)) (kit_ty (by decide +kernel)))) (fun _ H2 e2 => ?_) (fun z => nomatch z)
      refine s_ret (ev_is (ev_andV (ev_isi (b := true) (ev_var rfl) (.ty _) (fun _ _ => .base (.bl i)) (kit_ty (by decide +kernel))) fun _ => ev_andV (ev_op (ev_isi (b := true) (ev_var rfl) (.ty _) (fun _ _ => .base (.bl i)) (kit_ty (by decide +kernel))) (ev_isi (b := true) (ev_var rfl) (.ty _) (fun _ _ => .base (.bl i)) (kit_ty (by decide +kernel))) (rv_eq rfl)) fun _ => ev_op (ev_var rfl) (ev_var rfl) (rv_eq rfl)) ?_) fun H3 e3 => k H3 (Ex.trans e1 (Ex.trans e2 e3))
      simp
    · refine q_when (et_B (ev_isiT (ev_var rfl) (ea_cons ev_c (ea_cons ev_c ea_nil)) (by decide) pairT2 (fun _ _ => .base (.str i)) (kAny2 (by decide +kernel) (by decide +kernel)))) (fun z => nomatch z) fun _ H1 e1 => ?_
      refine q_when (et_B (ev_isi (b := false) (ev_var rfl) (.ty _) (fun _ _ => .base (.str i)) (kit_ty (by decide +kernel)))) (fun z => nomatch z) (fun _ H2 e2 => ?_)
      refine s_ret (ev_is (ev_andV (ev_isB (ev_isiT (ev_var rfl) (ea_cons ev_c (ea_cons ev_c (ea_cons ev_c (ea_cons ev_c ea_nil)))) (by decide) pairT4 (fun _ _ => .base (.str i)) (kAny4 (by decide +kernel) (by decide +kernel) (by decide +kernel) (by decide +kernel))) ev_c) fun _ => ev_op (ev_var rfl) (ev_var rfl) (rv_eq rfl)) ?_) fun H3 e3 => k H3 (Ex.trans e1 (Ex.trans e2 e3))
      simp
    · refine q_when (et_B (ev_isiT (ev_var rfl) (ea_cons ev_c (ea_cons ev_c ea_nil)) (by decide) pairT2 (fun _ _ => .base .non) (kAny2 (by decide +kernel) (by decide +kernel)))) (fun z => nomatch z) fun _ H1 e1 => ?_
      refine q_when (et_B (ev_isi (b := false) (ev_var rfl) (.ty _) (fun _ _ => .base .non) (kit_ty (by decide +kernel)))) (fun z => nomatch z) (fun _ H2 e2 => ?_)
      refine s_ret (ev_is (ev_andV (ev_isB (ev_isiT (ev_var rfl) (ea_cons ev_c (ea_cons ev_c (ea_cons ev_c (ea_cons ev_c ea_nil)))) (by decide) pairT4 (fun _ _ => .base .non) (kAny4 (by decide +kernel) (by decide +kernel) (by decide +kernel) (by decide +kernel))) ev_c) fun _ => ev_op (ev_var rfl) (ev_var rfl) (rv_eq rfl)) ?_) fun H3 e3 => k H3 (Ex.trans e1 (Ex.trans e2 e3))
      simp
    · refine q_when (et_B (ev_isiT (ev_var rfl) (ea_cons ev_c (ea_cons ev_c ea_nil)) (by decide) pairT2 (fun H1 e => .base (.lst (e _ _ hb))) kAnyL)) (fun _ H1 e1 => ?_) (fun z => nomatch z)
      have ha1 := e1 _ _ ha
      have hb1 := e1 _ _ hb
      refine q_when (b := false) (et_is (et_or (et_test (ev_op (ev_isi (b := true) (ev_var rfl) (.ty _) (fun _ e => .base (.lst (e _ _ ha1))) (kit_ty (by decide +kernel))) (ev_isi (b := true) (ev_var rfl) (.ty _) (fun _ e => .base (.lst (e _ _ hb1))) (kit_ty (by decide +kernel))) (rv_ne rfl))) fun _ => et_test (ev_op (ev_isi (b := false) (ev_var rfl) (.ty _) (fun _ e => .base (.lst (e _ _ ha1))) (kit_ty (by decide +kernel))) (ev_isi (b := false) (ev_var rfl) (.ty _) (fun _ e => .base (.lst (e _ _ hb1))) (kit_ty (by decide +kernel))) (rv_ne rfl))) (by simp)) (fun z => nomatch z) fun _ H2 e2 => ?_
      have ha2 := e2 _ _ ha1
      have hb2 := e2 _ _ hb1
      have lc : EvL (tLc (iZipA K (tCons (tVar 0) (tCons (tVar 1) tNil))) (gTup K 2 (gCons (gName 2) (gCons (gName 3) gNil))) tYes (tCall (spSame d) [] E0 (tCons (tVar 2) (tCons (tVar 3) tNil))) [2, 3]) [some (.ref a), some (.ref b), none, none] H2 ((List.range xs.length).map fun _ => V.bl true) :=
        el_lcZ (fun _ => V.bl true) (ev_var rfl) (ev_var rfl) (.inl ⟨ha2, hb2⟩) h1 h2 (fun _ _ => rfl) fun n x y H3 e3 hx hy => ev_call (ea_cons (ev_var rfl) (ea_cons (ev_var rfl) ea_nil)) fun H4 e4 Q q E => ⟨x, y, rfl, (h3 n x y hx hy).ex (Ex.trans e1 (Ex.trans e2 (Ex.trans e3 e4))), fun H5 s5 => q H5 s5⟩
      have hall := ev_all (K := K) (bs := (List.range xs.length).map fun _ => true) (by rw [List.map_map]; exact lc)
      refine s_ret (ev_is (ev_andV (ev_op (ev_lenL (ev_var rfl) ha2) (ev_lenL (ev_var rfl) hb2) (rv_eq rfl)) fun _ => hall) ?_) fun H3 e3 => k H3 (Ex.trans e1 (Ex.trans e2 e3))
      rw [h1]
      simp
    · refine q_when (et_B (ev_isiT (ev_var rfl) (ea_cons ev_c (ea_cons ev_c ea_nil)) (by decide) pairT2 (fun H1 e => .base (.tup (e _ _ hb))) kAnyT)) (fun _ H1 e1 => ?_) (fun z => nomatch z)
      have ha1 := e1 _ _ ha
      have hb1 := e1 _ _ hb
      refine q_when (b := false) (et_is (et_or (et_test (ev_op (ev_isi (b := false) (ev_var rfl) (.ty _) (fun _ e => .base (.tup (e _ _ ha1))) (kit_ty (by decide +kernel))) (ev_isi (b := false) (ev_var rfl) (.ty _) (fun _ e => .base (.tup (e _ _ hb1))) (kit_ty (by decide +kernel))) (rv_ne rfl))) fun _ => et_test (ev_op (ev_isi (b := true) (ev_var rfl) (.ty _) (fun _ e => .base (.tup (e _ _ ha1))) (kit_ty (by decide +kernel))) (ev_isi (b := true) (ev_var rfl) (.ty _) (fun _ e => .base (.tup (e _ _ hb1))) (kit_ty (by decide +kernel))) (rv_ne rfl))) (by simp)) (fun z => nomatch z) fun _ H2 e2 => ?_
      have ha2 := e2 _ _ ha1
      have hb2 := e2 _ _ hb1
      have lc : EvL (tLc (iZipA K (tCons (tVar 0) (tCons (tVar 1) tNil))) (gTup K 2 (gCons (gName 2) (gCons (gName 3) gNil))) tYes (tCall (spSame d) [] E0 (tCons (tVar 2) (tCons (tVar 3) tNil))) [2, 3]) [some (.ref a), some (.ref b), none, none] H2 ((List.range xs.length).map fun _ => V.bl true) :=
        el_lcZ (fun _ => V.bl true) (ev_var rfl) (ev_var rfl) (.inr ⟨ha2, hb2⟩) h1 h2 (fun _ _ => rfl) fun n x y H3 e3 hx hy => ev_call (ea_cons (ev_var rfl) (ea_cons (ev_var rfl) ea_nil)) fun H4 e4 Q q E => ⟨x, y, rfl, (h3 n x y hx hy).ex (Ex.trans e1 (Ex.trans e2 (Ex.trans e3 e4))), fun H5 s5 => q H5 s5⟩
      have hall := ev_all (K := K) (bs := (List.range xs.length).map fun _ => true) (by rw [List.map_map]; exact lc)
      refine s_ret (ev_is (ev_andV (ev_op (ev_lenT (ev_var rfl) ha2) (ev_lenT (ev_var rfl) hb2) (rv_eq rfl)) fun _ => hall) ?_) fun H3 e3 => k H3 (Ex.trans e1 (Ex.trans e2 e3))
      rw [h1]
      simp
end
end Lm

namespace Lm
open PySem L2 Evl RZ
/-! ### things of lists and tuples, told by their shape -/
inductive Sh where
  | v (u : V)
  | l (ss : List Sh)
  | t (ss : List Sh)
/-- flat things -/
def flt (u : V) : Prop := (∃ i, u = .int i) ∨ (∃ b, u = .bl b) ∨ (∃ s, u = .str s) ∨ u = .non
/-- at x stands a thing of the shape s, of depth below d, of objects of B -/
def RepB (H : Hp) (B : Addr → Prop) : Nat → V → Sh → Prop
  | 0 => fun _ _ => False
  | d + 1 => fun x s => match s with
    | .v u => x = u ∧ flt u
    | .l ss => ∃ a xs, x = .ref a ∧ B a ∧ H a = some (.lst xs) ∧ xs.length = ss.length ∧ xs.length ≤ 40000 ∧ ∀ (i : Nat) y s', xs[i]? = some y → ss[i]? = some s' → RepB H B d y s'
    | .t ss => ∃ a xs, x = .ref a ∧ B a ∧ H a = some (.tup xs) ∧ xs.length = ss.length ∧ xs.length ≤ 40000 ∧ ∀ (i : Nat) y s', xs[i]? = some y → ss[i]? = some s' → RepB H B d y s'
abbrev Rep (H : Hp) : Nat → V → Sh → Prop := RepB H fun _ => True
theorem RepB.mono {H H' : Hp} {B B' : Addr → Prop} (e : ∀ a o, B a → H a = some o → (∀ ps, o ≠ .tbl ps) → B' a ∧ H' a = some o) : ∀ {d : Nat} {x : V} {s : Sh}, RepB H B d x s → RepB H' B' d x s
  | 0, _, _, h => h
  | d + 1, x, .v u, h => h
  | d + 1, x, .l ss, ⟨a, xs, h1, hb, h2, h3, h4, h5⟩ => let ⟨q1, q2⟩ := e a _ hb h2 (fun _ z => by cases z); ⟨a, xs, h1, q1, q2, h3, h4, fun i y s' q1 q2 => RepB.mono e (h5 i y s' q1 q2)⟩
  | d + 1, x, .t ss, ⟨a, xs, h1, hb, h2, h3, h4, h5⟩ => let ⟨q1, q2⟩ := e a _ hb h2 (fun _ z => by cases z); ⟨a, xs, h1, q1, q2, h3, h4, fun i y s' q1 q2 => RepB.mono e (h5 i y s' q1 q2)⟩
theorem RepB.ex {H H' : Hp} {B : Addr → Prop} (e : Ex H H') {d : Nat} {x : V} {s : Sh} (h : RepB H B d x s) : RepB H' B d x s := h.mono fun a o b q _ => ⟨b, e _ _ q⟩
theorem Rep.extn {H H' : Hp} (e : LamX.ExtN H H') {d : Nat} {x : V} {s : Sh} (h : Rep H d x s) : Rep H' d x s := RepB.mono (fun a o b q n => ⟨b, e _ _ q n⟩) h
theorem RepB.rep {H : Hp} {B : Addr → Prop} {d : Nat} {x : V} {s : Sh} (h : RepB H B d x s) : Rep H d x s := h.mono fun a o b q _ => ⟨trivial, q⟩
theorem RepB.imp {H : Hp} {B B' : Addr → Prop} (e : ∀ a, B a → H a ≠ none → B' a) {d : Nat} {x : V} {s : Sh} (h : RepB H B d x s) : RepB H B' d x s := h.mono fun a o b q _ => ⟨e a b (by rw [q]; simp), q⟩
theorem Rep.on {H : Hp} {d : Nat} {x : V} {s : Sh} (h : Rep H d x s) : RepB H (fun a => H a ≠ none) d x s := RepB.imp (fun a _ q => q) h
theorem RepB.up {H : Hp} {B : Addr → Prop} : ∀ {d : Nat} {x : V} {s : Sh}, RepB H B d x s → RepB H B (d + 1) x s
  | 0, _, _, h => h.elim
  | d + 1, x, .v u, h => h
  | d + 1, x, .l ss, ⟨a, xs, h1, hb, h2, h3, h4, h5⟩ => ⟨a, xs, h1, hb, h2, h3, h4, fun i y s' q1 q2 => RepB.up (h5 i y s' q1 q2)⟩
  | d + 1, x, .t ss, ⟨a, xs, h1, hb, h2, h3, h4, h5⟩ => ⟨a, xs, h1, hb, h2, h3, h4, fun i y s' q1 q2 => RepB.up (h5 i y s' q1 q2)⟩
theorem flt.same {H : Hp} {d : Nat} {u : V} (h : flt u) : SameV H (d + 1) u u := by
  rcases h with ⟨i, rfl⟩ | ⟨i, rfl⟩ | ⟨i, rfl⟩ | rfl
  · exact .int i
  · exact .bl i
  · exact .str i
  · exact .non
theorem Rep.same {H : Hp} : ∀ {d : Nat} {x y : V} {s : Sh}, Rep H d x s → Rep H d y s → SameV H d x y
  | 0, _, _, _, h, _ => h.elim
  | d + 1, x, y, .v u, ⟨h1, h2⟩, ⟨g1, _⟩ => by
    subst h1 g1
    exact h2.same
  | d + 1, x, y, .l ss, ⟨a, xs, h1, _, h2, h3, h4, h5⟩, ⟨b, ys, g1, _, g2, g3, g4, g5⟩ => by
    subst h1 g1
    exact .lst h2 g2 (h3.trans g3.symm) h4 fun i u v q1 q2 => by
      have hi : i < ss.length := by rw [← h3]; exact (List.getElem?_eq_some_iff.mp q1).1
      exact Rep.same (h5 i u _ q1 (List.getElem?_eq_getElem hi)) (g5 i v _ q2 (List.getElem?_eq_getElem hi))
  | d + 1, x, y, .t ss, ⟨a, xs, h1, _, h2, h3, h4, h5⟩, ⟨b, ys, g1, _, g2, g3, g4, g5⟩ => by
    subst h1 g1
    exact .tup h2 g2 (h3.trans g3.symm) h4 fun i u v q1 q2 => by
      have hi : i < ss.length := by rw [← h3]; exact (List.getElem?_eq_some_iff.mp q1).1
      exact Rep.same (h5 i u _ q1 (List.getElem?_eq_getElem hi)) (g5 i v _ q2 (List.getElem?_eq_getElem hi))
theorem rep_flat {H : Hp} {B : Addr → Prop} {d : Nat} {a : Addr} {xs : List V} (hb : B a) (h : H a = some (.lst xs)) (hl : xs.length ≤ 40000) (hf : ∀ x ∈ xs, flt x) : RepB H B (d + 2) (.ref a) (.l (xs.map .v)) :=
  ⟨a, xs, rfl, hb, h, by simp, hl, fun i y s' q1 q2 => by
    rw [List.getElem?_map, q1] at q2
    cases (Option.some.inj q2)
    exact ⟨rfl, hf y (List.mem_of_getElem? q1)⟩⟩
theorem rep_flatT {H : Hp} {B : Addr → Prop} {d : Nat} {a : Addr} {xs : List V} (hb : B a) (h : H a = some (.tup xs)) (hl : xs.length ≤ 40000) (hf : ∀ x ∈ xs, flt x) : RepB H B (d + 2) (.ref a) (.t (xs.map .v)) :=
  ⟨a, xs, rfl, hb, h, by simp, hl, fun i y s' q1 q2 => by
    rw [List.getElem?_map, q1] at q2
    cases (Option.some.inj q2)
    exact ⟨rfl, hf y (List.mem_of_getElem? q1)⟩⟩
/-- what stood in H, or is new behind H1 -/
def Nb (H H1 : Hp) (a : Addr) : Prop := H a ≠ none ∨ H1 a = none
theorem Nb.back {H H1 H2 : Hp} {a : Addr} (e : Ex H1 H2) (h : Nb H H2 a) : Nb H H1 a := h.imp id (fresh_back e)
/-- a thing of a shape is told -/
def EvS (te : TE) (σ : L2.St) (H : Hp) (d : Nat) (s : Sh) : Prop := ∀ H1, Ex H H1 → ∀ Q : VK, (∀ v H2, Ex H1 H2 → RepB H2 (Nb H H1) d v s → Q v H2) → te σ H1 Q
def RepA (H : Hp) (B : Addr → Prop) (d : Nat) (vs : List V) (ss : List Sh) : Prop := vs.length = ss.length ∧ ∀ (i : Nat) y s', vs[i]? = some y → ss[i]? = some s' → RepB H B d y s'
def EvSA (ta : TA) (σ : L2.St) (H : Hp) (d : Nat) (ss : List Sh) : Prop := ∀ H1, Ex H H1 → ∀ Q : List V → Hp → Prop, (∀ vs H2, Ex H1 H2 → RepA H2 (Nb H H1) d vs ss → Q vs H2) → ta σ H1 Q
section
variable {K : PySem.W.Frag} {σ : L2.St} {H H' : Hp} {te ta tb : TE} {tr : TA} {d : Nat} {s : Sh} {ss : List Sh} {B : Addr → Prop}
theorem EvS.mono (e : Ex H H') (h : EvS te σ H d s) : EvS te σ H' d s := fun H1 a Q q => h H1 (e.trans a) Q fun v H2 e2 r => q v H2 e2 (r.imp fun b hb _ => hb.imp (fun z => by
  cases hh : H b with
  | none => exact absurd hh z
  | some o => rw [e _ _ hh]; simp) id)
theorem es_is {s' : Sh} (h : EvS te σ H d s) (e : s = s') : EvS te σ H d s' := e ▸ h
theorem es_up (h : EvS te σ H d s) : EvS te σ H (d + 1) s := fun H1 e Q q => h H1 e _ fun v H2 e2 r => q v H2 e2 r.up
theorem es_v {u : V} (h : Ev te σ H u) (hf : flt u) : EvS te σ H (d + 1) (.v u) := fun H1 e Q q => h H1 e _ fun H2 e2 => q u H2 e2 ⟨rfl, hf⟩
theorem es_i {i : Int} (h : Ev te σ H (.int i)) : EvS te σ H (d + 1) (.v (.int i)) := es_v h (.inl ⟨i, rfl⟩)
theorem es_b {i : Bool} (h : Ev te σ H (.bl i)) : EvS te σ H (d + 1) (.v (.bl i)) := es_v h (.inr (.inl ⟨i, rfl⟩))
theorem es_s {i : Str} (h : Ev te σ H (.str i)) : EvS te σ H (d + 1) (.v (.str i)) := es_v h (.inr (.inr (.inl ⟨i, rfl⟩)))
theorem es_n (h : Ev te σ H .non) : EvS te σ H (d + 1) (.v .non) := es_v h (.inr (.inr (.inr rfl)))
theorem es_var {i : Nat} {v : V} (h : σ[i]? = some (some v)) (hr : Rep H d v s) : EvS (tVar i) σ H d s := fun H1 e Q q => ⟨v, h, q v H1 (Ex.refl _) (RepB.imp (fun a h _ => .inl h) (RepB.ex e hr.on))⟩
theorem es_nil : EvSA tNil σ H d [] := fun H1 _ _ q => q [] H1 (Ex.refl _) ⟨rfl, fun i y s' h => by simp at h⟩
theorem RepA.cons {v : V} {vs : List V} (h : RepB H B d v s) (hr : RepA H B d vs ss) : RepA H B d (v :: vs) (s :: ss) := ⟨by simp [hr.1], fun i y s' q1 q2 => by
  cases i with
  | zero =>
    cases (Option.some.inj q1)
    cases (Option.some.inj q2)
    exact h
  | succ i => exact hr.2 i y s' q1 q2⟩
theorem RepA.ex {vs : List V} (e : Ex H H') (h : RepA H B d vs ss) : RepA H' B d vs ss := ⟨h.1, fun i y s' q1 q2 => (h.2 i y s' q1 q2).ex e⟩
theorem RepA.imp {B' : Addr → Prop} {vs : List V} (e : ∀ a, B a → B' a) (h : RepA H B d vs ss) : RepA H B' d vs ss := ⟨h.1, fun i y s' q1 q2 => (h.2 i y s' q1 q2).imp fun a b _ => e a b⟩
theorem es_cons (h : EvS ta σ H d s) (hr : EvSA tr σ H d ss) : EvSA (tCons ta tr) σ H d (s :: ss) := fun H1 e Q q => h H1 e _ fun v H2 e2 r2 => hr H2 (Ex.trans e e2) _ fun vs H3 e3 r3 => q (v :: vs) H3 (Ex.trans e2 e3) (.cons (r2.ex e3) (r3.imp fun a b => b.back e2))
theorem es_lst (h : EvSA tr σ H d ss) (hl : ss.length ≤ 40000) : EvS (tLst tr) σ H (d + 1) (.l ss) := fun H1 e Q q => h H1 e _ fun vs H2 e2 r2 => ⟨sz_of (by rw [r2.1]; omega), fun p np => q (.ref p) _ (Ex.trans e2 (Ex.new np)) ⟨p, vs, rfl, .inr (fresh_back e2 np), upd_same, r2.1, by rw [r2.1]; exact hl, (r2.ex (Ex.new np)).2⟩⟩
theorem es_tup (h : EvSA tr σ H d ss) (hl : ss.length ≤ 40000) : EvS (tTup tr) σ H (d + 1) (.t ss) := fun H1 e Q q => h H1 e _ fun vs H2 e2 r2 => ⟨sz_of (by rw [r2.1]; omega), fun p np => q (.ref p) _ (Ex.trans e2 (Ex.new np)) ⟨p, vs, rfl, .inr (fresh_back e2 np), upd_same, r2.1, by rw [r2.1]; exact hl, (r2.ex (Ex.new np)).2⟩⟩
theorem es_ofL {xs : List V} (h : EvL te σ H xs) (hl : xs.length ≤ 40000) (hf : ∀ x ∈ xs, flt x) : EvS te σ H (d + 2) (.l (xs.map .v)) := fun H1 e Q q => h H1 e _ fun p H2 np e2 hp => q (.ref p) H2 e2 (rep_flat (.inr np) hp hl hf)
theorem es_ofU {xs : List V} (h : EvU te σ H xs) (hl : xs.length ≤ 40000) (hf : ∀ x ∈ xs, flt x) : EvS te σ H (d + 2) (.t (xs.map .v)) := fun H1 e Q q => h H1 e _ fun p H2 np e2 hp => q (.ref p) H2 e2 (rep_flatT (.inr np) hp hl hf)
/-- the same shape is the same -/
theorem ev_sameS (h1 : EvS ta σ H d s) (h2 : EvS tb σ H d s) : Ev (tCall (spSame d) [] E0 (tCons ta (tCons tb tNil))) σ H (.bl true) := fun H1 e Q q =>
  h1 H1 e _ fun v H2 e2 r2 => h2 H2 (Ex.trans e e2) _ fun u H3 e3 r3 => ⟨v, u, rfl, Rep.same (RepB.ex e3 r2.rep) r3.rep, fun H4 e4 => q H4 (Ex.trans e2 (Ex.trans e3 e4))⟩
/-- behind i turns of a comprehension -/
def CwS (H H1 : Hp) (d : Nat) (g : Nat → Sh) (D : Addr) (i : Nat) (H' : Hp) : Prop := H D = none ∧ H1 D = none ∧ Ex H1 H' ∧ ∃ vs, H' D = some (.lst vs) ∧ vs.length = i ∧ ∀ (k : Nat) y, vs[k]? = some y → RepB H' (fun a => Nb H H1 a ∧ a ≠ D) d y (g k)
theorem cws_turn {H H1 H' : Hp} {d : Nat} {g : Nat → Sh} {D : Addr} {i : Nat} {σ2 : L2.St} {te : TE} (e : Ex H H1) (p : CwS H H1 d g D i H') (hi : i < 50000) (he : EvS te σ2 H d (g i)) :
    tYes σ2 H' fun b H3 => if b = true then te σ2 H3 fun y H4 => ∃ acc, H4 D = some (.lst acc) ∧ acc.length < sizeLine ∧ CwS H H1 d g D (i + 1) (upd H4 D (.lst (acc ++ [y]))) else CwS H H1 d g D (i + 1) H3 := by
  obtain ⟨p0, p1, p2, vs, p3, p4, p5⟩ := p
  show te σ2 H' _
  refine he H' (Ex.trans e p2) _ fun v H4 e4 r4 => ?_
  have hD4 := e4 _ _ p3
  have up : ∀ {k : Nat} {y : V} {s : Sh}, RepB H4 (fun a => Nb H H1 a ∧ a ≠ D) d y s → RepB (upd H4 D (.lst (vs ++ [v]))) (fun a => Nb H H1 a ∧ a ≠ D) d y s := fun h => h.mono fun a o b q _ => ⟨b, by rw [upd_ne b.2]; exact q⟩
  refine ⟨vs, hD4, sz_lt (by omega), p0, p1, Ex.mut (Ex.trans p2 e4) p1, vs ++ [v], upd_same, by simp [p4], fun k y hy => ?_⟩
  rcases Nat.lt_or_ge k vs.length with hk | hk
  · rw [List.getElem?_append_left hk] at hy
    exact up (k := 0) ((p5 k y hy).ex e4)
  · rw [List.getElem?_append_right hk] at hy
    cases q : k - vs.length with
    | zero =>
      rw [q] at hy
      cases hy
      have : k = i := by omega
      rw [this]
      refine up (k := 0) (r4.imp fun a hb _ => ⟨hb.back p2, fun z => ?_⟩)
      subst z
      rcases hb with hb | hb
      · exact hb p0
      · rw [p3] at hb; cases hb
    | succ m => rw [q] at hy; simp at hy
theorem cws_end {H H1 H' : Hp} {d : Nat} {g : Nat → Sh} {D : Addr} {n : Nat} (p : CwS H H1 d g D n H') (hn : n ≤ 40000) : RepB H' (Nb H H1) (d + 1) (.ref D) (.l ((List.range n).map g)) := by
  obtain ⟨p0, p1, p2, vs, p3, p4, p5⟩ := p
  refine ⟨D, vs, rfl, .inr p1, p3, by simp [p4], by omega, fun i y s' q1 q2 => ?_⟩
  have hi : i < n := by rw [← p4]; exact (List.getElem?_eq_some_iff.mp q1).1
  rw [List.getElem?_map, List.getElem?_range hi] at q2
  cases (Option.some.inj q2)
  exact (p5 i y q1).imp fun a b _ => b.1
/-- [e for k in range(n)] -/
theorem es_lcR {ta : TA} {j n : Nat} {g : Nat → Sh} (h : EvA ta σ H [.int (n : Int)]) (hn : n ≤ 40000) (he : ∀ k < n, EvS te ((wipe σ [j]).set j (some (.int (k : Nat)))) H d (g k)) : EvS (tLc (iRng1 ta) (gName j) tYes te [j]) σ H (d + 1) (.l ((List.range n).map g)) := fun H0 e Q q => h H0 e _ fun H1 e1 => by
  have E1 := Ex.trans e e1
  refine ⟨(n : Int), rfl, by omega, by omega, fun Dl hD => ?_⟩
  refine lc_range (lo := 0) (n := ((n : Int)).toNat) (CwS H H1 d g Dl) ⟨fresh_back E1 hD, hD, Ex.new hD, [], upd_same, rfl, fun k y hy => by simp at hy⟩ (fun i H' hi p => ?_) (fun H' p => ?_)
  · have e0 : (0 : Int) + (i : Int) = (i : Int) := Int.zero_add _
    rw [e0]
    refine ⟨?_, cws_turn E1 p (by omega) (he i (by omega))⟩
    show ((σ.set j none).set j (some (.int (i : Int)))).set j none = σ.set j none
    simp
  · have p' : CwS H H1 d g Dl n H' := by simpa using p
    exact q (.ref Dl) H' (Ex.trans e1 p'.2.2.1) ((cws_end p' hn).imp fun a b _ => b.back e1)
/-- [e for x in l] -/
theorem es_lcL {tl : TE} {j : Nat} {a : Addr} {xs : List V} {g : Nat → Sh} (h : Ev tl σ H (.ref a)) (ha : H a = some (.lst xs)) (hn : xs.length ≤ 40000) (he : ∀ (k : Nat) x, xs[k]? = some x → EvS te ((wipe σ [j]).set j (some x)) H d (g k)) : EvS (tLc (iList K tl) (gName j) tYes te [j]) σ H (d + 1) (.l ((List.range xs.length).map g)) := fun H0 e Q q => h H0 e _ fun H1 e1 => by
  have E1 := Ex.trans e e1
  refine ⟨a, rfl, ⟨xs, sq_of (E1 _ _ ha)⟩, fun Dl hD => ?_⟩
  refine lc_list (xs := xs) (CwS H H1 d g Dl) ⟨fresh_back E1 hD, hD, Ex.new hD, [], upd_same, rfl, fun k y hy => by simp at hy⟩ (fun i H' _ p => sq_of (p.2.2.1 _ _ (E1 _ _ ha))) (fun i x H' hx p => ?_) (fun H' p => ?_)
  · refine ⟨?_, cws_turn E1 p (by have := (List.getElem?_eq_some_iff.mp hx).1; omega) (he i x hx)⟩
    show ((σ.set j none).set j (some x)).set j none = σ.set j none
    simp
  · exact q (.ref Dl) H' (Ex.trans e1 p.2.2.1) ((cws_end p hn).imp fun a b _ => b.back e1)
theorem s_asgS {D : Ends} {i : Nat} (h : EvS te σ H d s) (k : ∀ v H1, Ex H H1 → Rep H1 d v s → D.nx (σ.set i (some v)) H1) : tAsg te (gName i) D σ H := h H (Ex.refl H) _ fun v H1 e r => k v H1 e r.rep
theorem q_asgS {tz : TS} {D : Ends} {i : Nat} (h : EvS te σ H d s) (k : ∀ v H1, Ex H H1 → Rep H1 d v s → tz D (σ.set i (some v)) H1) : tSeq (tAsg te (gName i)) tz D σ H := s_asgS (D := { D with nx := tz D }) h k
end
end Lm

namespace Lm
open PySem L2 Evl RZ LamX
/-! ### what several calls, each tried, tell: a list that grows -/
/-- free in H, or a table -/
def Fr (H : Hp) (a : Addr) : Prop := ∀ o, H a = some o → ∃ ps, o = .tbl ps
theorem Fr.back {H H' : Hp} {a : Addr} (e : ExtN H H') (h : Fr H' a) : Fr H a := fun o ho => Classical.byContradiction fun hc => hc (h o (e _ _ ho fun ps z => hc ⟨ps, z⟩))
theorem Fr.of {H : Hp} {a : Addr} (h : H a = none) : Fr H a := fun o ho => by rw [h] at ho; cases ho
theorem Fr.ne {H : Hp} {a b : Addr} {xs : List V} (h : Fr H a) (hb : H b = some (.lst xs)) : a ≠ b := fun z => by
  subst z
  obtain ⟨ps, q⟩ := h _ hb
  cases q
/-- a tried call tells a thing of the shape s -/
def TrS (Tl : List (Addr × Str)) (te : TE) (σ : L2.St) (H : Hp) (d : Nat) (s : Sh) : Prop := ∀ H1, ExtN H H1 → Tabs Tl H1 → ∀ Q : VK, (∀ v H2, ExtN H1 H2 → Tabs Tl H2 → RepB H2 (Fr H1) d v s → Q v H2) → te σ H1 Q
theorem TrS.extn {Tl : List (Addr × Str)} {te : TE} {σ : L2.St} {H H' : Hp} {d : Nat} {s : Sh} (e : ExtN H H') (h : TrS Tl te σ H d s) : TrS Tl te σ H' d s := fun H1 e1 T1 Q q => h H1 (e.trans e1) T1 Q q
section
variable {Cl : VK → XK} {post : V → Hp → VK → Prop} {Tl : List (Addr × Str)} {C : Addr} {fn tag : Str} {x : V} {σ : L2.St} {H : Hp} {t : XK → TE} {d : Nat}
theorem tr_err (hC : ∀ Q cls d H, ClF C fn tag Q cls d H → Cl Q cls d H) (hx : flt x)
    (h : ∀ H1, ExtN H H1 → ∀ (E : XK) (R : VK), (∀ H' d, Ex H1 H' → H' d = none → E (.ref C) (some d) (upd H' d (.xd [(fn, x)]))) → t E σ H1 R) : TrS Tl (tLam Tl (TTtr Cl post) t) σ H (d + 2) (.t [.v (.str tag), .v x]) := fun H1 e1 T1 Q q =>
  go_trA (x := x) T1 hC (fun H2 e2 E R hE => h H2 (e1.trans e2) E R hE) fun p H2 e2 T2 np hp => q (.ref p) H2 e2 T2 (rep_flatT (xs := [.str tag, x]) np hp (by show 2 ≤ 40000; decide) fun y hy => by
    simp only [List.mem_cons, List.not_mem_nil, or_false] at hy
    rcases hy with rfl | rfl
    · exact .inr (.inr (.inl ⟨_, rfl⟩))
    · exact hx)
theorem tr_oth (hC : ∀ Q cls d H, ClO C tag Q cls d H → Cl Q cls d H) (h : ∀ H1, ExtN H H1 → ∀ (E : XK) (R : VK), (∀ H', Ex H1 H' → E (.ref C) none H') → t E σ H1 R) : TrS Tl (tLam Tl (TTtr Cl post) t) σ H (d + 2) (.t [.v (.str tag)]) := fun H1 e1 T1 Q q =>
  go_trO T1 hC (fun H2 e2 E R hE => h H2 (e1.trans e2) E R hE) fun p H2 e2 T2 np hp => q (.ref p) H2 e2 T2 (rep_flatT (xs := [.str tag]) np hp (by show 1 ≤ 40000; decide) fun y hy => by
    rw [List.mem_singleton.mp hy]
    exact .inr (.inr (.inl ⟨_, rfl⟩)))
theorem tr_told (hx : flt x) (h : ∀ H1, ExtN H H1 → Tabs Tl H1 → ∀ (E : XK) (R : VK), (∀ H', Ex H1 H' → R x H') → t E σ H1 R) : TrS Tl (tLam Tl (TTtr Cl (pTold tag)) t) σ H (d + 2) (.t [.v (.str tag), .v x]) := fun H1 e1 T1 Q q => by
  refine ⟨T1, fun H2 e2 T2 p0 np0 E R _ hR => ?_⟩
  have s0 : Ex H2 (upd H2 p0 (.tup [.str "odd"])) := Ex.new np0
  refine h _ ((e1.trans e2).trans (.of s0)) (T2.ext s0) E R fun H' s => hR _ _ fun p np => ?_
  have s1 : Ex H2 (upd H' p (.tup [.str tag, x])) := Ex.trans s0 (Ex.trans s (Ex.new np))
  refine q (.ref p) _ (e2.trans (.of s1)) (T2.ext s1) (rep_flatT (xs := [.str tag, x]) (Fr.back e2 (Fr.of (fresh_back (Ex.trans s0 s) np))) upd_same (by show 2 ≤ 40000; decide) fun y hy => ?_)
  simp only [List.mem_cons, List.not_mem_nil, or_false] at hy
  rcases hy with rfl | rfl
  · exact .inr (.inr (.inl ⟨_, rfl⟩))
  · exact hx
end
/-- the list at l of what was found -/
structure Fnd (Tl : List (Addr × Str)) (H0 : Hp) (l : Addr) (d : Nat) (ss : List Sh) (H : Hp) : Prop where
  ex : ExtN H0 H
  nl : Fr H0 l
  tb : Tabs Tl H
  ls : ∃ xs, H l = some (.lst xs) ∧ RepA H (fun a => a ≠ l) d xs ss
section
variable {K : PySem.W.Frag} {Tl : List (Addr × Str)} {te : TE} {tz : TS} {D : Ends} {σ : L2.St} {H0 H : Hp} {l : Addr} {d i : Nat} {s : Sh} {ss : List Sh}
theorem Fnd.rep (F : Fnd Tl H0 l d ss H) (hl : ss.length ≤ 40000) : Rep H (d + 1) (.ref l) (.l ss) := by
  obtain ⟨xs, h1, h2, h3⟩ := F.ls
  exact ⟨l, xs, rfl, trivial, h1, h2, by omega, fun i y s' q1 q2 => (h3 i y s' q1 q2).rep⟩
theorem Tabs_mutL {T : List (Addr × Str)} {H : Hp} {l : Addr} {xs : List V} {o : HO} (t : LamX.Tabs T H) (hl : H l = some (.lst xs)) : LamX.Tabs T (upd H l o) := fun p hp => by
  obtain ⟨ps, h1, h2, h3⟩ := t p hp
  refine ⟨ps, by rw [upd_ne (ne_of h1 hl (by intro z; cases z))]; exact h1, h2, fun pos cv hc => ?_⟩
  obtain ⟨c, e1, e2⟩ := h3 pos cv hc
  exact ⟨c, e1, by rw [upd_ne (ne_of e2 hl (by intro z; cases z))]; exact e2⟩
theorem ExtN_mutL {H H' : Hp} {l : Addr} {o : HO} (e : LamX.ExtN H H') (nl : Fr H l) : LamX.ExtN H (upd H' l o) := fun b u h n => by
  rw [upd_ne (fun z => by subst z; obtain ⟨ps, q⟩ := nl u h; exact n ps q)]
  exact e b u h n
theorem RepA_snoc {H : Hp} {B : Addr → Prop} {d : Nat} {vs : List V} {ss : List Sh} {v : V} {s : Sh} (h : RepA H B d vs ss) (hv : RepB H B d v s) : RepA H B d (vs ++ [v]) (ss ++ [s]) := ⟨by simp [h.1], fun i y s' q1 q2 => by
  rcases Nat.lt_or_ge i vs.length with hi | hi
  · rw [List.getElem?_append_left hi] at q1
    rw [List.getElem?_append_left (by rw [← h.1]; exact hi)] at q2
    exact h.2 i y s' q1 q2
  · rw [List.getElem?_append_right hi] at q1
    rw [List.getElem?_append_right (by rw [← h.1]; exact hi), ← h.1] at q2
    cases q : i - vs.length with
    | zero =>
      rw [q] at q1 q2
      cases q1
      cases q2
      exact hv
    | succ n => rw [q] at q1; simp at q1⟩
theorem go_fst (T : Tabs Tl H) (h : TrS Tl te σ H d s) (k : ∀ l H1, Fnd Tl H l d [s] H1 → tz D (σ.set i (some (.ref l))) H1) : tSeq (tAsg (tLst (tCons te tNil)) (gName i)) tz D σ H :=
  h H (ExtN.refl _) T _ fun v H1 e1 T1 r1 => ⟨by show 1 ≤ sizeLine; decide, fun l nl => k l _ ⟨e1.trans (.of (Ex.new nl)), Fr.back e1 (Fr.of nl), T1.ext (Ex.new nl), [v], upd_same, RepA.cons (r1.mono fun a o hb ho _ => ⟨ne_of_none ho nl, by rw [upd_ne (ne_of_none ho nl)]; exact ho⟩) ⟨rfl, fun i y s' z => by simp at z⟩⟩⟩
theorem go_nxt (F : Fnd Tl H0 l d ss H) (hi : σ[i]? = some (some (.ref l))) (hn : ss.length ≤ 900) (h : TrS Tl te σ H d s) (k : ∀ H1, Fnd Tl H0 l d (ss ++ [s]) H1 → tz D σ H1) : tSeq (tDrop (tBM K "list" rAppend (tVar i) (tCons te tNil))) tz D σ H := by
  obtain ⟨xs, h1, h2⟩ := F.ls
  refine ⟨_, hi, .inl ⟨rfl, _, SqL.of h1⟩, ?_⟩
  refine h H (ExtN.refl _) F.tb _ fun v H1 e1 T1 r1 => ?_
  have hl1 := e1 _ _ h1 (fun _ z => by cases z)
  refine ⟨l, _, _, rfl, rfl, hl1, sz_lt (by rw [h2.1]; omega), k _ ⟨ExtN_mutL (F.ex.trans e1) F.nl, F.nl, Tabs_mutL T1 hl1, _, upd_same, RepA_snoc ⟨h2.1, fun i y s' q1 q2 => (h2.2 i y s' q1 q2).mono fun a o hb ho hn => ⟨hb, by rw [upd_ne hb]; exact e1 _ _ ho hn⟩⟩ (r1.mono fun a o hb ho _ => ?_)⟩⟩
  have hal : a ≠ l := hb.ne h1
  exact ⟨hal, by rw [upd_ne hal]; exact ho⟩
end
/-! ### lists told one behind another -/
theorem RepA_app {H : Hp} {B : Addr → Prop} {d : Nat} {vs us : List V} {ss ts : List Sh} (h : RepA H B d vs ss) (h2 : RepA H B d us ts) : RepA H B d (vs ++ us) (ss ++ ts) := ⟨by simp [h.1, h2.1], fun i y s' q1 q2 => by
  rcases Nat.lt_or_ge i vs.length with hi | hi
  · rw [List.getElem?_append_left hi] at q1
    rw [List.getElem?_append_left (by rw [← h.1]; exact hi)] at q2
    exact h.2 i y s' q1 q2
  · rw [List.getElem?_append_right hi] at q1
    rw [List.getElem?_append_right (by rw [← h.1]; exact hi), ← h.1] at q2
    exact h2.2 _ y s' q1 q2⟩
theorem RepA_nil {H : Hp} {B : Addr → Prop} {d : Nat} : RepA H B d [] [] := ⟨rfl, fun i y s' z => by simp at z⟩
theorem RepA_rep {H : Hp} {B : Addr → Prop} {d : Nat} {vs : List V} {ss : List Sh} (h : RepA H B d vs ss) : ∀ n, RepA H B d (List.replicate n vs).flatten (List.replicate n ss).flatten
  | 0 => RepA_nil
  | n + 1 => by
    rw [List.replicate_succ, List.replicate_succ, List.flatten_cons, List.flatten_cons]
    exact RepA_app h (RepA_rep h n)
theorem flat_len {α : Type} (l : List α) : ∀ n, (List.replicate n l).flatten.length = n * l.length
  | 0 => by simp
  | n + 1 => by rw [List.replicate_succ, List.flatten_cons, List.length_append, flat_len l n, Nat.succ_mul, Nat.add_comm]
theorem rep_l {H : Hp} {B : Addr → Prop} {d : Nat} {v : V} {ss : List Sh} (h : RepB H B (d + 1) v (.l ss)) : ∃ a xs, v = .ref a ∧ B a ∧ H a = some (.lst xs) ∧ RepA H B d xs ss := by
  obtain ⟨a, xs, h1, h2, h3, h4, h5, h6⟩ := h
  exact ⟨a, xs, h1, h2, h3, h4, h6⟩
section
variable {σ : L2.St} {H : Hp} {ta tb : TE} {d n : Nat} {ss ts : List Sh}
theorem es_cat (h1 : EvS ta σ H (d + 1) (.l ss)) (h2 : EvS tb σ H (d + 1) (.l ts)) (hl : ss.length + ts.length ≤ 40000) : EvS (tOp rCat ta tb) σ H (d + 1) (.l (ss ++ ts)) := fun H1 e Q q => h1 H1 e _ fun v H2 e2 r2 => h2 H2 (Ex.trans e e2) _ fun u H3 e3 r3 => by
  obtain ⟨a, xs, rfl, ba, ha, ra⟩ := rep_l r2
  obtain ⟨b, ys, rfl, bb, hb, rb⟩ := rep_l r3
  refine ⟨a, b, xs, ys, rfl, rfl, e3 _ _ ha, hb, sz_of (by rw [ra.1, rb.1]; omega), fun p np => q (.ref p) _ (Ex.trans e2 (Ex.trans e3 (Ex.new np))) ?_⟩
  refine ⟨p, xs ++ ys, rfl, .inr (fresh_back (Ex.trans e2 e3) np), upd_same, by rw [List.length_append, List.length_append, ra.1, rb.1], by rw [List.length_append, ra.1, rb.1]; exact hl, (RepA_app ((ra.ex e3).ex (Ex.new np)) ((rb.imp fun a b => b.back e2).ex (Ex.new np))).2⟩
theorem es_rep (h1 : EvS ta σ H (d + 1) (.l ss)) (h2 : Ev tb σ H (.int (n : Int))) (hl : ss.length * n ≤ 40000) (hn : n ≤ 40000) : EvS (tOp rRep ta tb) σ H (d + 1) (.l (List.replicate n ss).flatten) := fun H1 e Q q => h1 H1 e _ fun v H2 e2 r2 => h2 H2 (Ex.trans e e2) _ fun H3 e3 => by
  obtain ⟨a, xs, rfl, ba, ha, ra⟩ := rep_l r2
  refine ⟨a, (n : Int), xs, rfl, rfl, e3 _ _ ha, by omega, by omega, sz_of (by rw [ra.1, Int.toNat_natCast]; omega), fun p np => q (.ref p) _ (Ex.trans e2 (Ex.trans e3 (Ex.new np))) ?_⟩
  have r := RepA_rep ((ra.ex e3).ex (Ex.new np (o := .lst (List.replicate ((n : Int)).toNat xs).flatten))) n
  refine ⟨p, (List.replicate ((n : Int)).toNat xs).flatten, rfl, .inr (fresh_back (Ex.trans e2 e3) np), upd_same, ?_, ?_, ?_⟩
  · rw [Int.toNat_natCast]; exact r.1
  · rw [Int.toNat_natCast, r.1, flat_len, Nat.mul_comm]; exact hl
  · rw [Int.toNat_natCast]
    rw [Int.toNat_natCast] at r
    exact r.2
end
theorem ev_intI {σ : L2.St} {H : Hp} {te : TE} {i : Int} (h : Ev te σ H (.int i)) : Ev (tCB (fun xs H Q => (∃ i, xs = [V.int i] ∧ Q (V.int i) H) ∨ ∃ k, xs = [V.bl k] ∧ Q (V.int (if k = true then 1 else 0)) H) (tCons te tNil)) σ H (.int i) := fun H1 e Q q => h H1 e _ fun H2 e2 => .inl ⟨i, rfl, q H2 e2⟩
end Lm

namespace Lm
open PySem L2 Evl RZ
def SeqAt (H : Hp) (a : Addr) (xs : List V) : Prop := H a = some (.lst xs) ∨ H a = some (.tup xs)
theorem wipe1 (σ : L2.St) (j : Nat) (x : V) : wipe ((wipe σ [j]).set j (some x)) [j] = wipe σ [j] := by
  show ((σ.set j none).set j (some x)).set j none = σ.set j none
  simp
theorem given_true (n : Nat) (v : Nat → V) : given n (fun _ => true) v = (List.range n).map v := by
  unfold given
  rw [List.filter_eq_self.mpr fun _ _ => rfl]
theorem range_mapD {α β : Type} (l : List α) (g : α → β) (d : β) : (List.range l.length).map (fun i => (l.map g).getD i d) = l.map g := by
  refine List.ext_getElem? fun i => ?_
  rw [List.getElem?_map, List.getElem?_map]
  rcases Nat.lt_or_ge i l.length with h | h
  · rw [List.getElem?_range h, List.getElem?_eq_getElem h]
    simp [List.getD_eq_getElem?_getD, List.getElem?_eq_getElem h]
  · rw [List.getElem?_eq_none (by simpa using h), List.getElem?_eq_none h]
    rfl
theorem getD_of {α β : Type} {l : List α} {g : α → β} {d : β} {i : Nat} {x : α} (h : l[i]? = some x) : (l.map g).getD i d = g x := by
  rw [List.getD_eq_getElem?_getD, List.getElem?_map, h]
  rfl
theorem et_yes {σ : L2.St} {H : Hp} : EvT tYes σ H true := fun H1 _ _ q => q H1 (Ex.refl H1)
section
variable {K : PySem.W.Frag} {σ : L2.St} {H : Hp} {ta tb te : TE}
theorem map_inv {α : Type} {l : List α} {f : α → V} {i : Nat} {v : V} (h : (l.map f)[i]? = some v) : ∃ x, l[i]? = some x ∧ v = f x := by
  rw [List.getElem?_map] at h
  cases e : l[i]? with
  | none => rw [e] at h; cases h
  | some a => rw [e] at h; exact ⟨a, rfl, (Option.some.inj h).symm⟩
/-- [e for x in l], l a list -/
theorem el_mapL {α : Type} {l : List α} {f g : α → V} {tl : TE} {j : Nat} {a : Addr} (h : Ev tl σ H (.ref a)) (ha : H a = some (.lst (l.map f))) (hz : l.length ≤ 40000) (he : ∀ x ∈ l, ∀ H1, Ex H H1 → Ev te ((wipe σ [j]).set j (some (f x))) H1 (g x)) :
    EvL (tLc (iList K tl) (gName j) tYes te [j]) σ H (l.map g) := by
  have := el_lcL (K := K) (σ := σ) (H := H) (tl := tl) (t := tYes) (te := te) (vs := [j]) (j := j) (fun _ => true) (fun i => (l.map g).getD i .non) h (sq_of ha) (by rw [List.length_map]; exact hz) (fun v => wipe1 _ j v) (fun _ _ _ _ _ => et_yes) fun i v H1 e1 hv _ => by
    obtain ⟨x, hx, rfl⟩ := map_inv hv
    rw [getD_of hx]
    exact he x (List.mem_of_getElem? hx) H1 e1
  rw [given_true, List.length_map, range_mapD] at this
  exact this
/-- … a new list -/
theorem el_mapN {α : Type} {l : List α} {f g : α → V} {tl : TE} {j : Nat} (h : EvL tl σ H (l.map f)) (hz : l.length ≤ 40000) (he : ∀ x ∈ l, ∀ H1, Ex H H1 → Ev te ((wipe σ [j]).set j (some (f x))) H1 (g x)) :
    EvL (tLc (iList K tl) (gName j) tYes te [j]) σ H (l.map g) := by
  have := el_lcNL (K := K) (σ := σ) (H := H) (tl := tl) (t := tYes) (te := te) (vs := [j]) (j := j) (fun _ => true) (fun i => (l.map g).getD i .non) h (by rw [List.length_map]; exact hz) (fun v => wipe1 _ j v) (fun _ _ _ _ _ => et_yes) fun i v H1 e1 hv _ => by
    obtain ⟨x, hx, rfl⟩ := map_inv hv
    rw [getD_of hx]
    exact he x (List.mem_of_getElem? hx) H1 e1
  rw [given_true, List.length_map, range_mapD] at this
  exact this
/-- … a tuple -/
theorem el_mapT {α : Type} {l : List α} {f g : α → V} {tl : TE} {j : Nat} {a : Addr} (h : Ev tl σ H (.ref a)) (ha : H a = some (.tup (l.map f))) (hz : l.length ≤ 40000) (he : ∀ x ∈ l, ∀ H1, Ex H H1 → Ev te ((wipe σ [j]).set j (some (f x))) H1 (g x)) :
    EvL (tLc (iTup K tl) (gName j) tYes te [j]) σ H (l.map g) := fun H0 e Q q => h H0 e _ fun H1 e1 => ⟨a, rfl, ⟨_, st_of ((Ex.trans e e1) _ _ ha)⟩, fun Dl hD => by
  refine lc_tup (K := K) (a := a) (xs := l.map f) (Cw H1 (fun _ => true) (fun i => (l.map g).getD i .non) Dl) ⟨hD, Ex.new hD, upd_same⟩ (fun i H' _ p => st_of (Ex.trans (Ex.trans e e1) p.2.1 _ _ ha)) (fun i v H' hv p => ⟨wipe1 _ j v, ?_⟩) (fun H' p => ?_)
  · obtain ⟨x, hx, rfl⟩ := map_inv hv
    refine cw_turn p (by have := (List.getElem?_eq_some_iff.mp hx).1; omega) et_yes fun _ => ?_
    rw [getD_of hx]
    exact he x (List.mem_of_getElem? hx) H1 (Ex.trans e e1)
  · have p3 := p.2.2
    rw [given_true, List.length_map, range_mapD] at p3
    exact q Dl H' (fresh_back e1 p.1) (Ex.trans e1 p.2.1) p3⟩
/-- [e for k in range(n)] -/
theorem el_mapR {ta : TA} {j : Nat} {n : Nat} {g : Nat → V} (h : EvA ta σ H [.int (n : Int)]) (hn : n ≤ 40000) (he : ∀ k < n, ∀ H1, Ex H H1 → Ev te ((wipe σ [j]).set j (some (.int (k : Nat)))) H1 (g k)) :
    EvL (tLc (iRng1 ta) (gName j) tYes te [j]) σ H ((List.range n).map g) := by
  have := el_lcR1 (σ := σ) (H := H) (ta := ta) (t := tYes) (te := te) (vs := [j]) (j := j) (n := (n : Int)) (fun _ => true) g h ⟨by omega, by omega⟩ (fun v => wipe1 _ j v) (fun _ _ _ _ => et_yes) fun i H1 e1 hi _ => he i (by omega) H1 e1
  rw [given_true] at this
  exact this
end
theorem strs_flat1 (l : List Str) : (l.map V.str).all flatV = true := by
  rw [List.all_eq_true]
  intro x hx
  obtain ⟨n, _, rfl⟩ := List.mem_map.mp hx
  rfl
theorem strs_in1 (l : List Str) (x : Str) : inV (.str x) (l.map V.str) = decide (x ∈ l) := by
  unfold inV
  induction l with
  | nil => rfl
  | cons a r ih =>
    rw [List.map_cons, List.any_cons, ih]
    show ((a == x) || decide (x ∈ r)) = decide (x ∈ a :: r)
    by_cases h : a = x
    · subst h; simp
    · have h3 : ¬ x = a := fun z => h z.symm
      simp [h, h3]
theorem rv_ixQ1 {K : PySem.W.Frag} {H : Hp} {p : Addr} {xs : List V} {n : Nat} {v : V} (h : SeqAt H p xs) (hx : xs[n]? = some v) : RV (rIx K) (.ref p) (.int (n : Nat)) H v := fun H1 e Q q => by
  rcases h with h | h
  · exact .inl ⟨p, xs, (n : Int), v, rfl, rfl, SqL.of (e _ _ h), atI_nat hx, q H1 (Ex.refl _)⟩
  · exact .inr (.inl ⟨p, xs, (n : Int), v, rfl, rfl, SqT.of (e _ _ h), atI_nat hx, q H1 (Ex.refl _)⟩)
theorem map_inv1 {α : Type} {f : α → V} {l : List α} {i : Nat} {v : V} (h : (l.map f)[i]? = some v) : ∃ x, l[i]? = some x ∧ v = f x := by
  rw [List.getElem?_map] at h
  cases hi : l[i]? with
  | none => rw [hi] at h; cases h
  | some x => rw [hi] at h; cases h; exact ⟨x, rfl, rfl⟩
theorem sIx1 (x : V) (xs : List V) : HT.sIx (x :: xs).length 0 (some 1) = 1 := by
  show _ = _
  unfold HT.sIx
  simp
theorem cut1 (x : V) (xs : List V) : cutV (x :: xs) (some 1) none = xs := by
  unfold cutV
  have h1 : HT.sIx (x :: xs).length 0 (some 1) = 1 := by
    show _ = _
    unfold HT.sIx
    simp
  have h2 : HT.sIx (x :: xs).length (x :: xs).length none = (x :: xs).length := rfl
  rw [h1, h2]
  simp
theorem ev_lenQ1 {K : PySem.W.Frag} {σ : L2.St} {H : Hp} {te : TE} {p : Addr} {xs : List V} (ha : Ev te σ H (.ref p)) (h : SeqAt H p xs) : Ev (tCB (rLenS K) (tCons te tNil)) σ H (.int (xs.length : Int)) := h.elim (fun h => ev_lenL ha h) fun h => ev_lenT ha h
theorem seq_same {H H' : Hp} {p : Addr} {xs : List V} (h : SeqAt H p xs) (e : Same H H') : SeqAt H' p xs := h.elim (fun h => .inl (e _ _ h)) fun h => .inr (e _ _ h)
theorem for_enumA1 {K : PySem.W.Frag} {a : Addr} {xs : List V} {g : TG} {tb : TS} {D : Ends} {σ : St} {H : Hp} (hq : SeqAt H a xs) (Pv : Nat → St → Hp → Prop) (h0 : Pv 0 σ H) (hG : ∀ i σ' H', i ≤ xs.length → Pv i σ' H' → ∀ o, H a = some o → H' a = some o)
    (hs : ∀ i x σ H H', i < xs.length → Pv i σ H → YPair (fun i => some (.int (i : Nat))) (fun i => xs[i]?) i H x H' → g x σ H' fun σ2 H2 => tb { D with nx := Pv (i + 1), ct := Pv (i + 1), bk := D.nx } σ2 H2) (hd : ∀ σ H, Pv xs.length σ H → D.nx σ H) :
    ∃ a' xs', [V.ref a] = [V.ref a'] ∧ ((SqL K H a' xs' ∧ ∃ W : Nat → Nat → St → Hp → Prop, (∃ m, W 0 m σ H) ∧ ∀ i m σ H, W i m σ H →
      ((Ite K a').stop i H ∧ D.nx σ H) ∨ ((Ite K a').go i H ∧ ∃ N : St → Hp → Prop, (∀ σ' H', N σ' H' → ∃ m', m' < m ∧ W (i + 1) m' σ' H') ∧ ∀ x H', (Ite K a').yld i H x H' → g x σ H' fun σ2 H2 => tb { D with nx := N, ct := N, bk := D.nx } σ2 H2)) ∨
      (SqT K H a' xs' ∧ ∃ W : Nat → Nat → St → Hp → Prop, (∃ m, W 0 m σ H) ∧ ∀ i m σ H, W i m σ H →
      ((IteT K a').stop i H ∧ D.nx σ H) ∨ ((IteT K a').go i H ∧ ∃ N : St → Hp → Prop, (∀ σ' H', N σ' H' → ∃ m', m' < m ∧ W (i + 1) m' σ' H') ∧ ∀ x H', (IteT K a').yld i H x H' → g x σ H' fun σ2 H2 => tb { D with nx := N, ct := N, bk := D.nx } σ2 H2))) := by
  rcases hq with hq | hq
  · exact ⟨a, xs, rfl, .inl ⟨SqL.of hq, for_it walk_enum Pv h0 (fun i σ' H' hi p => SqL.of (hG i σ' H' hi p _ hq)) hs hd⟩⟩
  · exact ⟨a, xs, rfl, .inr ⟨SqT.of hq, for_it walk_enumT Pv h0 (fun i σ' H' hi p => SqT.of (hG i σ' H' hi p _ hq)) hs hd⟩⟩
theorem sq_go1 {te : TE} {g : TG} {tz : TS} {D : Ends} {σ : L2.St} {H : Hp} (h : te σ H fun v H1 => g v σ H1 (tz D)) : tSeq (tAsg te g) tz D σ H := h
theorem ev_notN1 {σ : L2.St} {H : Hp} {te : TE} (h : Ev te σ H .non) : Ev (tOp rNotN te (tC .non)) σ H (.bl false) := fun H1 e1 Q q => h H1 e1 _ fun H2 e2 => ⟨rfl, q H2 e2⟩
def rTupOf (K : PySem.W.Frag) : List V → Hp → VK → Prop := fun xs H Q => ∃ p ys, xs = [.ref p] ∧ ((SqL K H p ys ∧ ∀ l, H l = none → Q (.ref l) (upd H l (.tup ys))) ∨ (SqT K H p ys ∧ Q (.ref p) H))
section
variable {K : PySem.W.Frag} {σ : L2.St} {H : Hp} {te tl : TE}
theorem el_mapS {α : Type} {l : List α} {f g : α → V} {j : Nat} {a : Addr} (h : Ev tl σ H (.ref a)) (ha : SeqAt H a (l.map f)) (hz : l.length ≤ 40000) (he : ∀ x ∈ l, ∀ H1, Ex H H1 → Ev te ((wipe σ [j]).set j (some (f x))) H1 (g x)) :
    EvL (tLc (fun σ H R => iList K tl σ H R ∨ iTup K tl σ H R) (gName j) tYes te [j]) σ H (l.map g) := fun H1 e Q q => ha.elim (fun x => .inl (el_mapL (K := K) h x hz he H1 e Q q)) fun x => .inr (el_mapT (K := K) h x hz he H1 e Q q)
end
theorem atI_n1 {xs : List V} {n : Nat} {v : V} (h : xs[n]? = some v) : atI xs (n : Nat) = some v := by
  have hn := (List.getElem?_eq_some_iff.mp h).1
  unfold atI
  rw [ixN_nat hn]
  exact h
theorem StAt.neL {H : Hp} {st c : Addr} (S : StAt H st c) : ∃ xs, H st = some (.lst xs) := let ⟨⟨_, _, _, h⟩, _, _⟩ := S; ⟨_, h⟩
def KpS (st D : Addr) (H H' : Hp) : Prop := ∀ b o, H b = some o → (b = st ∨ b = D → ∀ xs, o ≠ .lst xs) → H' b = some o
theorem kps_of {st D : Addr} {H H' : Hp} {xs : List V} (e : Kp st H H') (h : H st = some (.lst xs)) : KpS st D H H' := fun b o hb hn => e b o (fun z => by
  subst z
  rw [h] at hb
  exact hn (.inl rfl) _ (Option.some.inj hb).symm) hb
theorem kps_mut {st D : Addr} {H : Hp} {xs : List V} {o' : HO} (h : H D = some (.lst xs)) : KpS st D H (upd H D o') := fun b o hb hn => by
  rw [upd_ne]
  · exact hb
  · intro z
    subst z
    rw [h] at hb
    exact hn (.inr rfl) _ (Option.some.inj hb).symm
theorem KpS.lst {st D : Addr} {H H' : Hp} {l : Addr} {o : HO} (e : KpS st D H H') (h1 : l ≠ st) (h2 : l ≠ D) (h : H l = some o) : H' l = some o := e _ _ h fun z => by
  rcases z with z | z
  · exact absurd z h1
  · exact absurd z h2
theorem lc_drawR {st c D : Addr} {σ : L2.St} {te : TE} {j n : Nat} {H1 : Hp} {Qd : Hp → Prop} (Pr : Nat → V → Hp → Prop) (S0 : StAt H1 st c) (nD : H1 D = none) (hn : n ≤ 1000) (stab : ∀ i v H H', Pr i v H → KpS st D H H' → Pr i v H')
    (turn : ∀ i H', i < n → StAt H' st c → Kp st H1 H' → (∃ acc, H' D = some (.lst acc)) → ∀ Q : VK, (∀ v H2, Pr i v H2 → StAt H2 st c → Kp st H' H2 → Q v H2) → te ((wipe σ [j]).set j (some (.int (i : Nat)))) H' Q)
    (done : ∀ vs H', vs.length = n → (∀ i v, vs[i]? = some v → Pr i v H') → StAt H' st c → Kp st H1 H' → H' D = some (.lst vs) → Qd H') :
    ∃ W : Nat → Nat → Hp → Prop, (∃ m, W 0 m (upd H1 D (.lst []))) ∧ ∀ i m H, W i m H → ((Itr 0 n).stop i H ∧ Qd H) ∨ ((Itr 0 n).go i H ∧ ∃ Nx : Hp → Prop, (∀ H', Nx H' → ∃ m', m' < m ∧ W (i + 1) m' H') ∧ ∀ x H', (Itr 0 n).yld i H x H' → gName j x (wipe σ [j]) H' fun σ2 H2 => wipe σ2 [j] = wipe σ [j] ∧ tYes σ2 H2 fun b H3 =>
      if b = true then te σ2 H3 fun y H4 => ∃ acc, H4 D = some (.lst acc) ∧ acc.length < sizeLine ∧ Nx (upd H4 D (.lst (acc ++ [y]))) else Nx H3) := by
  have hDs := (S0.of_new nD).1
  have hDc := (S0.of_new nD).2
  refine lc_range (lo := 0) (fun i H' => StAt H' st c ∧ Kp st H1 H' ∧ ∃ vs : List V, vs.length = i ∧ H' D = some (.lst vs) ∧ ∀ k v, vs[k]? = some v → Pr k v H') ⟨S0.same (Same.upd' nD), Kp.of (Same.upd' nD), [], rfl, upd_same, fun k v h => by simp at h⟩ ?_ ?_
  · rintro i H' hi ⟨S', e, vs, hl, hD, hv⟩
    have z : (0 : Int) + (i : Int) = (i : Int) := by omega
    rw [z]
    refine ⟨wipe1 σ j _, ?_⟩
    obtain ⟨xs1, hst1⟩ := S'.neL
    refine turn i H' hi S' e ⟨_, hD⟩ _ fun v H2 hp S2 e2 => ?_
    have hD2 := e2 _ _ hDs hD
    refine ⟨vs, hD2, small1000 (by omega), S2.mut hDs hDc, Kp.mut (e.trans e2) nD, vs ++ [v], by simp [hl], upd_same, fun k x hx => ?_⟩
    have km : KpS st D H2 (upd H2 D (.lst (vs ++ [v]))) := kps_mut hD2
    rcases Nat.lt_or_ge k vs.length with hk | hk
    · rw [List.getElem?_append_left hk] at hx
      exact stab _ _ _ _ (stab _ _ _ _ (hv k x hx) (kps_of e2 hst1)) km
    · rw [List.getElem?_append_right hk] at hx
      cases q : k - vs.length with
      | zero =>
        rw [q] at hx
        cases hx
        have : k = i := by omega
        rw [this]
        exact stab _ _ _ _ hp km
      | succ m => rw [q] at hx; simp at hx
  · rintro H' ⟨S', e, vs, hl, hD, hv⟩
    exact done vs H' hl hv S' e hD
theorem lc_drawL {K : PySem.W.Frag} {st c D a : Addr} {xs : List V} {σ : L2.St} {te : TE} {j : Nat} {H1 : Hp} {Qd : Hp → Prop} (Pr : Nat → V → Hp → Prop) (S0 : StAt H1 st c) (nD : H1 D = none) (has : a ≠ st) (ha : H1 a = some (.lst xs)) (hn : xs.length ≤ 1000) (stab : ∀ i v H H', Pr i v H → KpS st D H H' → Pr i v H')
    (turn : ∀ i x H', xs[i]? = some x → StAt H' st c → Kp st H1 H' → (∃ acc, H' D = some (.lst acc)) → ∀ Q : VK, (∀ v H2, Pr i v H2 → StAt H2 st c → Kp st H' H2 → Q v H2) → te ((wipe σ [j]).set j (some x)) H' Q)
    (done : ∀ vs H', vs.length = xs.length → (∀ i v, vs[i]? = some v → Pr i v H') → StAt H' st c → Kp st H1 H' → H' D = some (.lst vs) → Qd H') :
    ∃ W : Nat → Nat → Hp → Prop, (∃ m, W 0 m (upd H1 D (.lst []))) ∧ ∀ i m H, W i m H → ((Itl K a).stop i H ∧ Qd H) ∨ ((Itl K a).go i H ∧ ∃ Nx : Hp → Prop, (∀ H', Nx H' → ∃ m', m' < m ∧ W (i + 1) m' H') ∧ ∀ x H', (Itl K a).yld i H x H' → gName j x (wipe σ [j]) H' fun σ2 H2 => wipe σ2 [j] = wipe σ [j] ∧ tYes σ2 H2 fun b H3 =>
      if b = true then te σ2 H3 fun y H4 => ∃ acc, H4 D = some (.lst acc) ∧ acc.length < sizeLine ∧ Nx (upd H4 D (.lst (acc ++ [y]))) else Nx H3) := by
  have hDs := (S0.of_new nD).1
  have hDc := (S0.of_new nD).2
  refine lc_list (K := K) (a := a) (xs := xs) (fun i H' => StAt H' st c ∧ Kp st H1 H' ∧ ∃ vs : List V, vs.length = i ∧ H' D = some (.lst vs) ∧ ∀ k v, vs[k]? = some v → Pr k v H') ⟨S0.same (Same.upd' nD), Kp.of (Same.upd' nD), [], rfl, upd_same, fun k v h => by simp at h⟩ (fun i H' _ p => SqL.of (p.2.1 _ _ has ha)) ?_ ?_
  · rintro i x H' hx ⟨S', e, vs, hl, hD, hv⟩
    have hi := (List.getElem?_eq_some_iff.mp hx).1
    refine ⟨wipe1 σ j _, ?_⟩
    obtain ⟨xs1, hst1⟩ := S'.neL
    refine turn i x H' hx S' e ⟨_, hD⟩ _ fun v H2 hp S2 e2 => ?_
    have hD2 := e2 _ _ hDs hD
    refine ⟨vs, hD2, small1000 (by omega), S2.mut hDs hDc, Kp.mut (e.trans e2) nD, vs ++ [v], by simp [hl], upd_same, fun k y hy => ?_⟩
    have km : KpS st D H2 (upd H2 D (.lst (vs ++ [v]))) := kps_mut hD2
    rcases Nat.lt_or_ge k vs.length with hk | hk
    · rw [List.getElem?_append_left hk] at hy
      exact stab _ _ _ _ (stab _ _ _ _ (hv k y hy) (kps_of e2 hst1)) km
    · rw [List.getElem?_append_right hk] at hy
      cases q : k - vs.length with
      | zero =>
        rw [q] at hy
        cases hy
        have : k = i := by omega
        rw [this]
        exact stab _ _ _ _ hp km
      | succ m => rw [q] at hy; simp at hy
  · rintro H' ⟨S', e, vs, hl, hD, hv⟩
    exact done vs H' hl hv S' e hD

theorem kp_back {st c t : Addr} {H H' : Hp} (S : StAt H' st c) (k : Kp st H H') (n : H' t = none) : H t = none := by
  cases hb : H t with
  | none => rfl
  | some o =>
    by_cases hbs : t = st
    · subst hbs
      obtain ⟨ys, hys⟩ := S.neL
      rw [hys] at n
      cases n
    · rw [k _ _ hbs hb] at n
      cases n
theorem pss_no1 {X : Cx} {ss : List Stmt} : PSs X ss (fun _ _ _ => False) := ⟨fun _ _ _ _ _ _ h => h.elim⟩
theorem tyx_str {K : PySem.W.Frag} {H : Hp} {z : Str} : TyX K H (.str z) (.type "str") := .base (.str z)
section
variable {K : PySem.W.Frag} {σ : L2.St} {H : Hp} {te : TE}
theorem ev_isSeqN {z : Str} (h : Ev te σ H (.str z)) : Ev (tCB (rIsiT K) (tCons te (tCons (tTup (tCons (tC (.ty "list")) (tCons (tC (.ty "tuple")) tNil))) tNil))) σ H (.bl false) := fun H1 e1 Q q => h H1 e1 _ fun H2 e2 =>
  ⟨by show 2 ≤ sizeLine; decide, fun p np => ⟨_, _, _, _, _, false, rfl, upd_same, .cons (.ty _) (.cons (.ty _) .nil), tyx_str, kitAny_cons (b := false) (kit_ty (by decide +kernel)) (fun _ => kitAny_cons (b := false) (kit_ty (by decide +kernel)) (fun _ => kitAny_nil) (fun z => nomatch z)) (fun z => nomatch z), q _ (Ex.trans e2 (Ex.new np))⟩⟩
theorem ev_isSeqY {a : Addr} {xs : List V} (h : Ev te σ H (.ref a)) (hq : SeqAt H a xs) : Ev (tCB (rIsiT K) (tCons te (tCons (tTup (tCons (tC (.ty "list")) (tCons (tC (.ty "tuple")) tNil))) tNil))) σ H (.bl true) := fun H1 e1 Q q => h H1 e1 _ fun H2 e2 =>
  ⟨by show 2 ≤ sizeLine; decide, fun p np => by
    rcases seq_same hq (Ex.trans e1 e2) with hq | hq
    · exact ⟨_, _, _, _, _, true, rfl, upd_same, .cons (.ty _) (.cons (.ty _) .nil), .base (.lst (by rw [upd_ne (ne_of_none hq np)]; exact hq)), kitAny_cons (b := true) (kit_ty (by decide +kernel)) (fun z => nomatch z) (fun _ => rfl), q _ (Ex.trans e2 (Ex.new np))⟩
    · exact ⟨_, _, _, _, _, true, rfl, upd_same, .cons (.ty _) (.cons (.ty _) .nil), .base (.tup (by rw [upd_ne (ne_of_none hq np)]; exact hq)), kitAny_cons (b := false) (kit_ty (by decide +kernel)) (fun _ => kitAny_cons (b := true) (kit_ty (by decide +kernel)) (fun z => nomatch z) (fun _ => rfl)) (fun z => nomatch z), q _ (Ex.trans e2 (Ex.new np))⟩⟩
end
section
variable {P : Program} {w : World} {K : PySem.W.Frag} {mg : Str → Option Value} {base : Heap} {f : Addr} {fd : FuncData}
def spHanded : Sp := fun vs H Q _ => ∃ (st c a : Addr) (xs : List V), vs = [.ref st, .ref a] ∧ StAt H st c ∧ a ≠ st ∧ H a = some (.lst xs) ∧ ∀ p H', H p = none → StAt H' st c → Kp st H H' → SeqAt H' p xs → Q (.ref p) H'
abbrev s_handed : Stmt := top 21
theorem sc_handed : FnScope ["_law_state", "_law_things"] ["_law_state", "_law_things"] (defScope s_handed) := ⟨rfl, rfl, rfl, by decide +kernel, rfl, by decide +kernel, by decide +kernel⟩
theorem ok_handed {fT : Addr} {fdT : FuncData} (F : Fun K "_law_handed" "_law_handed" s_handed f fd) (T : Blt mg) (D_take : DefOk P w K mg base 2 "_law_take" fT fdT ["_law_state", "_law_many"] spTake) : FnOk P w K mg base CX0 3 f fd ["_law_state", "_law_things"] spHanded := by
  refine F.ok sc_handed (fun vs H Q E h => ?_) (fun cdv A outer s H vs Q E hr h => ?_)
  · obtain ⟨st, c, a, xs, rfl, _⟩ := h
    rfl
  · obtain ⟨st, c, a, xs, rfl, S, hn, ha, k⟩ := h
    refine ⟨_, (pss_one (ps_ret (pe_ifExp (pt_cmpR op_eq (pe_d D_take (hr.mono (by decide)) (pa_cons (pv 0) (pa_cons pe_int pa_nil))) pe_int (nomark _)) (pe_callTy call_list_of (by rfl) T.b_list (by decide +kernel) (pa_cons (pv 1) pa_nil)) (pe_callTy call_tuple_of (by rfl) T.b_tuple (by decide +kernel) (pa_cons (pv 1) pa_nil))))), ?_⟩
    refine ⟨_, rfl, st, c, 2, rfl, S, by decide, by decide, fun d H2 d0 d1 S2 e2 => ?_⟩
    have ha2 := e2 _ _ hn ha
    refine ⟨rfl, _, rfl, ite2 (fun _ => ?_) (fun _ => ?_)⟩
    · exact ⟨_, rfl, a, xs, rfl, .inl (SqL.of ha2), fun l nl => k l _ (e2.free (S2.of_new nl).1 nl) (S2.same (Same.upd' nl)) (e2.trans (Kp.of (Same.upd' nl))) (.inl upd_same)⟩
    · exact ⟨_, rfl, a, xs, rfl, .inl ⟨SqL.of ha2, fun l nl => k l _ (e2.free (S2.of_new nl).1 nl) (S2.same (Same.upd' nl)) (e2.trans (Kp.of (Same.upd' nl))) (.inr upd_same)⟩⟩
end
/-! ### lists that are filtered -/
theorem given_filA {α : Type} (l : List α) (f : α → V) (b : α → Bool) : ∀ n, n ≤ l.length → given n (fun i => (l.map b).getD i false) (fun i => (l.map f).getD i .non) = ((l.take n).filter b).map f
  | 0, _ => by simp [given]
  | n + 1, h => by
    have hn : l[n]? = some l[n] := List.getElem?_eq_getElem h
    have ih := given_filA l f b n (by omega)
    have eb : (l.map b).getD n false = b l[n] := getD_of hn
    have ev : (l.map f).getD n .non = f l[n] := getD_of hn
    rw [List.take_succ, hn, List.filter_append, List.map_append]
    cases hb : b l[n] with
    | true =>
      rw [given_yes (by rw [eb, hb]), ih, ev]
      simp [hb]
    | false =>
      rw [given_no (by rw [eb, hb]), ih]
      simp [hb]
theorem given_fil {α : Type} (l : List α) (f : α → V) (b : α → Bool) : given l.length (fun i => (l.map b).getD i false) (fun i => (l.map f).getD i .non) = (l.filter b).map f := by
  rw [given_filA l f b _ (Nat.le_refl _), List.take_length]
/-- a tuple is told, new or not -/
def EvUr (te : TE) (σ : L2.St) (H : Hp) (xs : List V) : Prop := ∀ H1, Ex H H1 → ∀ Q : VK, (∀ p H2, Ex H1 H2 → H2 p = some (.tup xs) → Q (.ref p) H2) → te σ H1 Q
theorem EvU.r' {te : TE} {σ : L2.St} {H : Hp} {xs : List V} (h : EvU te σ H xs) : EvUr te σ H xs := fun H1 e Q q => h H1 e Q fun p H2 _ e2 hp => q p H2 e2 hp
theorem eur_ev {te : TE} {σ : L2.St} {H : Hp} {xs : List V} {a : Addr} (h : Ev te σ H (.ref a)) (ha : H a = some (.tup xs)) : EvUr te σ H xs := fun H1 e Q q => h H1 e Q fun H2 e2 => q a H2 e2 (Ex.trans e e2 _ _ ha)
section
variable {K : PySem.W.Frag} {σ : L2.St} {H : Hp} {tl te : TE} {tt : TT}
theorem el_filU {α : Type} {l : List α} {f g : α → V} {b : α → Bool} {j : Nat} (h : EvUr tl σ H (l.map f)) (hz : l.length ≤ 40000) (ht : ∀ x ∈ l, ∀ H1, Ex H H1 → EvT tt ((wipe σ [j]).set j (some (f x))) H1 (b x)) (he : ∀ x ∈ l, ∀ H1, Ex H H1 → Ev te ((wipe σ [j]).set j (some (f x))) H1 (g x)) :
    EvL (tLc (iTup K tl) (gName j) tt te [j]) σ H ((l.filter b).map g) := fun H0 e Q q => h H0 e _ fun a H1 e1 ha => ⟨a, rfl, ⟨_, st_of ha⟩, fun Dl hD => by
  refine lc_tup (K := K) (a := a) (xs := l.map f) (Cw H1 (fun i => (l.map b).getD i false) (fun i => (l.map g).getD i .non) Dl) ⟨hD, Ex.new hD, upd_same⟩ (fun i H' _ p => st_of (p.2.1 _ _ ha)) (fun i v H' hv p => ⟨wipe1 _ j v, ?_⟩) (fun H' p => ?_)
  · obtain ⟨x, hx, rfl⟩ := map_inv hv
    have hi := (List.getElem?_eq_some_iff.mp hx).1
    refine cw_turn p (by omega) ?_ fun _ => ?_
    · have eb : (l.map b).getD i false = b x := getD_of hx
      show EvT tt _ _ ((l.map b).getD i false)
      rw [eb]
      exact ht x (List.mem_of_getElem? hx) H1 (Ex.trans e e1)
    · rw [getD_of hx]
      exact he x (List.mem_of_getElem? hx) H1 (Ex.trans e e1)
  · have p3 := p.2.2
    rw [List.length_map, given_fil] at p3
    exact q Dl H' (fresh_back e1 p.1) (Ex.trans e1 p.2.1) p3⟩
theorem el_filL1 {α : Type} {l : List α} {f g : α → V} {b : α → Bool} {j : Nat} {a : Addr} (h : Ev tl σ H (.ref a)) (ha : H a = some (.lst (l.map f))) (hz : l.length ≤ 40000) (ht : ∀ x ∈ l, ∀ H1, Ex H H1 → EvT tt ((wipe σ [j]).set j (some (f x))) H1 (b x)) (he : ∀ x ∈ l, ∀ H1, Ex H H1 → Ev te ((wipe σ [j]).set j (some (f x))) H1 (g x)) :
    EvL (tLc (iList K tl) (gName j) tt te [j]) σ H ((l.filter b).map g) := fun H0 e Q q => h H0 e _ fun H1 e1 => ⟨a, rfl, ⟨_, sq_of (Ex.trans e e1 _ _ ha)⟩, fun Dl hD => by
  refine lc_list (K := K) (a := a) (xs := l.map f) (Cw H1 (fun i => (l.map b).getD i false) (fun i => (l.map g).getD i .non) Dl) ⟨hD, Ex.new hD, upd_same⟩ (fun i H' _ p => sq_of (Ex.trans (Ex.trans e e1) p.2.1 _ _ ha)) (fun i v H' hv p => ⟨wipe1 _ j v, ?_⟩) (fun H' p => ?_)
  · obtain ⟨x, hx, rfl⟩ := map_inv hv
    have hi := (List.getElem?_eq_some_iff.mp hx).1
    refine cw_turn p (by omega) ?_ fun _ => ?_
    · have eb : (l.map b).getD i false = b x := getD_of hx
      show EvT tt _ _ ((l.map b).getD i false)
      rw [eb]
      exact ht x (List.mem_of_getElem? hx) H1 (Ex.trans e e1)
    · rw [getD_of hx]
      exact he x (List.mem_of_getElem? hx) H1 (Ex.trans e e1)
  · have p3 := p.2.2
    rw [List.length_map, given_fil] at p3
    exact q Dl H' (fresh_back e1 p.1) (Ex.trans e1 p.2.1) p3⟩
end
/-! ### cuts of lists -/
theorem cutV_from (xs : List V) (k : Nat) : cutV xs (some (k : Int)) none = xs.drop k := by
  unfold cutV
  rw [HT.sIx_nat, HT.sIx_none]
  rcases Nat.le_total k xs.length with h | h
  · rw [Nat.min_eq_left h]
    exact List.take_of_length_le (by rw [List.length_drop]; omega)
  · rw [Nat.min_eq_right h, List.drop_of_length_le (Nat.le_refl _), List.drop_of_length_le h]
    simp
theorem cutV_to (xs : List V) (k : Nat) : cutV xs none (some (k : Int)) = xs.take k := by
  unfold cutV
  rw [HT.sIx_nat, HT.sIx_none, List.drop_zero, Nat.sub_zero]
  rcases Nat.le_total k xs.length with h | h
  · rw [Nat.min_eq_left h]
  · rw [Nat.min_eq_right h, List.take_of_length_le (Nat.le_refl _), List.take_of_length_le h]
section
variable {K : PySem.W.Frag} {σ : L2.St} {H : Hp} {ta tb : TE}
theorem el_cat {xs ys : List V} (ha : EvL ta σ H xs) (hb : EvL tb σ H ys) (hl : xs.length + ys.length ≤ 100000) : EvL (tOp rCat ta tb) σ H (xs ++ ys) := fun H1 e Q q => ha H1 e _ fun p H2 np e2 hp => hb H2 (Ex.trans e e2) _ fun p' H3 np' e3 hp' =>
  ⟨p, p', xs, ys, rfl, rfl, e3 _ _ hp, hp', sz_of hl, fun r nr => q r _ (fresh_back (Ex.trans e2 e3) nr) ((e2.trans e3).trans (Ex.new nr)) upd_same⟩
theorem el_catV {p : Addr} {xs ys : List V} (ha : Ev ta σ H (.ref p)) (hp : H p = some (.lst xs)) (hb : EvL tb σ H ys) (hl : xs.length + ys.length ≤ 100000) : EvL (tOp rCat ta tb) σ H (xs ++ ys) := fun H1 e Q q => ha H1 e _ fun H2 e2 => hb H2 (Ex.trans e e2) _ fun p' H3 np' e3 hp' =>
  ⟨p, p', xs, ys, rfl, rfl, Ex.trans e (Ex.trans e2 e3) _ _ hp, hp', sz_of hl, fun r nr => q r _ (fresh_back (Ex.trans e2 e3) nr) ((e2.trans e3).trans (Ex.new nr)) upd_same⟩
theorem el_rev {p : Addr} {xs : List V} (ha : Ev ta σ H (.ref p)) (hp : H p = some (.lst xs)) : EvL (tRevL K ta) σ H xs.reverse := fun H1 e Q q => ha H1 e _ fun H2 e2 => ⟨p, xs, rfl, sq_of (Ex.trans e e2 _ _ hp), fun r nr => q r _ (fresh_back e2 nr) (e2.trans (Ex.new nr)) upd_same⟩
end
theorem KpS.refl (st D : Addr) (H : Hp) : KpS st D H H := fun _ _ h _ => h
theorem KpS.trans {st D : Addr} {H H1 H2 : Hp} (a : KpS st D H H1) (b : KpS st D H1 H2) : KpS st D H H2 := fun c o h n => b c o (a c o h n) n
theorem KpS.of {st D : Addr} {H H' : Hp} (e : Same H H') : KpS st D H H' := fun b o h _ => e b o h
theorem KpS.back {st D : Addr} {H H' : Hp} (e : KpS st D H H') (n : H D = none) : Kp st H H' := fun b o hb h => e b o h (fun q => by
  rcases q with q | q
  · exact absurd q hb
  · subst q
    rw [n] at h
    cases h)
section
variable {K : PySem.W.Frag} {σ : L2.St} {H : Hp} {te ta tb : TE}
theorem eu_slT {tl th : TO} {a : Addr} {xs : List V} {lo hi : Option Int} (h : Ev te σ H (.ref a)) (h1 : EvO tl σ H lo) (h2 : EvO th σ H hi) (hs : H a = some (.tup xs)) (hw : ¬ (HT.sIx xs.length 0 lo = 0 ∧ HT.sIx xs.length xs.length hi = xs.length)) : EvU (tSl (rSlT K) te tl th) σ H (cutV xs lo hi) := fun H1 e _ q =>
  h H1 e _ fun H2 e2 => h1 H2 (Ex.trans e e2) _ fun H3 e3 => h2 H3 (Ex.trans e (Ex.trans e2 e3)) _ fun H4 e4 => ⟨a, xs, rfl, st_of (Ex.trans e (Ex.trans e2 (Ex.trans e3 e4)) _ _ hs), hw, fun p np => q p _ (fresh_back (Ex.trans e2 (Ex.trans e3 e4)) np) (Ex.trans (Ex.trans e2 (Ex.trans e3 e4)) (Ex.new np)) upd_same⟩
theorem et_strne {x y : Str} {ta tb : TE} (h1 : Ev ta σ H (.str x)) (h2 : Ev tb σ H (.str y)) : EvT (tTest (tOp rNe ta tb)) σ H (!decide (x = y)) := by
  have e : (V.str x = V.str y) = (x = y) := propext ⟨V.str.inj, congrArg _⟩
  refine et_is (et_test (ev_op h1 h2 (rv_ne rfl))) ?_
  simp only [e]
end
end Lm

namespace Lm
open PySem L2 Evl RZ TL
abbrev c_DIGITS : V := .str "0123456789"
abbrev c_MOST_DEVICES : V := .int 3
structure HiCst (K : PySem.W.Frag) (mg : Str → Option Value) (AK AL : Addr) (tD tM : Tok) : Prop where
  g_DIGITS : mg "DIGITS" = some (.str "0123456789" tD)
  g_MOST_DEVICES : mg "MOST_DEVICES" = some (.int 3 tM)
  g_KINDS : mg "KINDS" = some (.ref AK)
  g_LEADING : mg "LEADING" = some (.ref AL)
  hK : ∀ H, SqT K H AK (kindsS.map V.str)
  hL : ∀ H, SqT K H AL (leadS.map V.str)
/-! ### an error with a field -/
structure ErrI (P : Program) (w : World) (K : PySem.W.Frag) (mg : Str → Option Value) (base : Heap) (C fI : Addr) (fdI : FuncData) (fn : Str) : Prop where
  ok : FnOk P w K mg base CX0 1 fI fdI ["self", fn] (spErrI C fn)
  bd : Binds K fdI ["self", fn] []
theorem pmk_errF {X : Cx} {x fn : Str} {C fI : Addr} {fdI : FuncData} {e : Expr} {te : TE} {p pos : Pos} (T : ErrF X.K X.mg x C fI fn) (I : ErrI X.prog X.w X.K X.mg X.base C fI fdI fn) (hr : Room 2 X.A) (ha : PA X [e] (tCons te tNil)) (hg : Gl X x := by rfl) (hdb : (x == ("__debug__" : Str)) = false := by decide)
    (hst : starEach [e] X.env = (false, eval e X.env) :: starEach [] X.env := by rfl) (hpl : (backTo pos (starEach [] X.env)).any (·.1) = false := by rfl) : PMk X (.Call (.Name x p) [e] [] pos) (tMkO C (spErrI C fn) [] (tCons te tNil)) :=
  pmk_oex T.T T.ini T.ty I.ok hr I.bd .nil pass0 hg T.g ha hdb hst hpl
/-! ### sizes -/
def intsV (l : List Nat) : List V := l.map fun n : Nat => V.int (n : Int)
theorem lg_ok {n : Nat} (h : n < 10 ^ 200) : ((n : Int).natAbs).log2 < 1920 := by
  rw [Int.natAbs_natCast]
  by_cases h0 : n = 0
  · subst h0; decide
  · exact (Nat.log2_lt h0).mpr (Nat.lt_of_lt_of_le h (by decide +kernel))
theorem dstr_len {n : Nat} (h : n < 10 ^ 200) : (dstr n).length ≤ 200 := by
  rw [len_tl, tl_dstr]
  exact numL_len (by decide) h
theorem joinL_len (S : List Nat) : ∀ ps : List (List Nat), (joinL S ps).length ≤ (ps.map List.length).sum + ps.length * S.length
  | [] => by simp [joinL]
  | [p] => by simp [joinL]
  | p :: q :: r => by
    rw [joinL_cons (by simp)]
    have := joinL_len S (q :: r)
    rw [List.map_cons, List.sum_cons, List.length_cons (a := p), Nat.add_mul]
    simp only [List.length_append]
    omega
theorem join_len (y : Str) (ps : List Str) : (Txt.join y ps).length ≤ (ps.map (·.length)).sum + ps.length * y.length := by
  rw [len_tl, join_eq, tl_join]
  have := joinL_len (tl y) (ps.map tl)
  rw [List.map_map, List.length_map, ← len_tl] at this
  have e : ps.map (List.length ∘ tl) = ps.map (·.length) := List.map_congr_left fun p _ => (len_tl p).symm
  rw [e] at this
  exact this
theorem sum_le {l : List Nat} {m : Nat} (h : ∀ x ∈ l, x ≤ m) : l.sum ≤ l.length * m := by
  induction l with
  | nil => simp
  | cons a r ih =>
    have h1 := ih fun x hx => h x (by simp [hx])
    have h2 := h a (by simp)
    rw [List.sum_cons, List.length_cons, Nat.add_mul]
    omega
theorem len_app (x y : Str) : (x ++ y).length = x.length + y.length := by rw [len_tl, tl_append, List.length_append, len_tl, len_tl]
section
variable {P : Program} {w : World} {K : PySem.W.Frag} {mg : Str → Option Value} {base : Heap} {f : Addr} {fd : FuncData}
abbrev s_BadText_init : Stmt := inClass (top 6) 0
theorem sc_BadText_init : FnScope ["self", "line"] ["self", "line"] (defScope s_BadText_init) := ⟨rfl, rfl, rfl, by decide +kernel, rfl, by decide +kernel, by decide +kernel⟩
theorem ok_bad_text {C : Addr} (F : Fun K "__init__" "BadText.__init__" s_BadText_init f fd) (T : OexC K C) (hno : PySem.W.findIn K (.ref C) "line" = some none) : FnOk P w K mg base CX0 1 f fd ["self", "line"] (spErrI C "line") := by
  refine F.ok sc_BadText_init (fun vs H Q E h => ?_) (fun cdv A outer s H vs Q E hr h => ?_)
  · obtain ⟨a, v, rfl, _⟩ := h
    rfl
  · obtain ⟨a, v, rfl, ha, k⟩ := h
    refine ⟨_, (pss_one (ps_ost (pv 0) (pv 1) rfl)), ?_⟩
    exact ⟨_, rfl, _, rfl, a, C, rfl, T, hno, .inl ⟨ha, fun dx ndx hda => k dx ndx hda⟩⟩
def spIsFig : Sp := fun vs H Q _ => ∃ x : Str, vs = [.str x] ∧ x.length ≤ 1000 ∧ ∀ H', Ex H H' → Q (.bl (isFig x)) H'
theorem digs (c : Nat) : decide (c ∈ ("0123456789" : Str).cps.toList) = decide (48 ≤ c ∧ c ≤ 57) := by
  have e : ("0123456789" : Str).cps.toList = List.range' 48 10 := by decide +kernel
  rw [e]
  simp only [List.mem_range'_1]
  by_cases h1 : 48 ≤ c <;> by_cases h2 : c ≤ 57 <;> simp [h1, h2] <;> omega
abbrev s_is_figures : Stmt := top 14
theorem sc_is_figures : FnScope ["part", "sign"] ["part"] (defScope s_is_figures) := ⟨rfl, rfl, rfl, by decide +kernel, rfl, by decide +kernel, by decide +kernel⟩
theorem ok_is_fig {AK AL : Addr} {tD tM : Tok} (F : Fun K "is_figures" "is_figures" s_is_figures f fd) (T : Blt mg) (T' : HiCst K mg AK AL tD tM) : FnOk P w K mg base CX0 1 f fd ["part"] spIsFig := by
  refine F.ok sc_is_figures (fun vs H Q E h => ?_) (fun cdv A outer s H vs Q E hr h => ?_)
  · obtain ⟨x, rfl, _⟩ := h
    rfl
  · obtain ⟨x, rfl, hx, k⟩ := h
    refine ⟨_, (pss_one (ps_ret (pe_and (pe_cmpR op_ne (pv 0) pe_str (nomark _)) (pe_one (pe_callB (cr_all rfl) (by rfl) T.b_all (by decide +kernel) (by exact (pa_cons (pe_lc (own := [("sign", 1)]) (g := gName 1) (tt := tYes) (te := (tOp rInSign (tVar 1) (tC c_DIGITS))) rfl sc_is_figures.nd (pi_str (pv 0)) (blkOk_by (own := [("sign", 1)]) (by kernel_rfl)) (fun _ _ _ _ _ => (pg_name (i := 1) sc_is_figures.nd rfl (by first | exact Or.inl rfl | exact Or.inr rfl))) (fun _ _ _ _ _ => pts_nil) (fun _ _ _ _ _ => by exact (pe_cmpR op_in_sign (pv 1) (pe_glob (v := c_DIGITS) rfl T'.g_DIGITS ⟨_, rfl⟩) rfl))) pa_nil))))))), ?_⟩
    have hl : x.length = x.cps.size := rfl
    have ne : Ev (tOp rNe (tVar 0) (tC (.str ""))) [some (.str x), none] H (.bl (!decide (x = ""))) := by
      have e : (V.str x = V.str "") = (x = "") := propext ⟨V.str.inj, congrArg _⟩
      have := ev_op (σ := [some (.str x), none]) (H := H) (ev_var (i := 0) (v := .str x) rfl) (ev_c (v := .str "")) (rv_ne rfl)
      simp only [e] at this
      exact this
    have al : Ev (tCB (rAll K) (tCons (tLc (iStr (tVar 0)) (gName 1) tYes (tOp rInSign (tVar 1) (tC c_DIGITS)) [1]) tNil)) [some (.str x), none] H (.bl ((tl x).all fun c => decide (48 ≤ c ∧ c ≤ 57))) := fun H1 e1 Q q => by
      refine ⟨_, rfl, x, rfl, fun D nD => lc_it walk_str (fun j H' => Ex H1 H' ∧ H' D = some (.lst (((x.cps.toList.take j).map fun c => decide (48 ≤ c ∧ c ≤ 57)).map V.bl))) ⟨Ex.new nD, upd_same⟩ (fun _ _ _ _ => True.intro) ?_ ?_⟩
      · rintro j y H' H'' hj ⟨e, hD⟩ ⟨rfl, c, hc, rfl⟩
        refine ⟨rfl, _, rfl, _, _, rfl, rfl, _, hD, small1000 (by simp; omega), Ex.mut e nD, ?_⟩
        have hc' : x.cps.toList[j]? = some c := by simpa using hc
        rw [upd_same, List.take_succ, hc', digs]
        simp
      · rintro H' ⟨e, hD⟩
        refine ⟨_, _, rfl, SqL.of hD, ?_⟩
        have e2 : ((((x.cps.toList.take x.cps.size).map fun c => decide (48 ≤ c ∧ c ≤ 57)).all id)) = (tl x).all fun c => decide (48 ≤ c ∧ c ≤ 57) := by
          rw [show x.cps.size = x.cps.toList.length from by simp, List.take_length]
          simp
        rw [e2]
        exact q H' e
    exact s_ret (ev_is (ev_andV ne fun _ => al) (by unfold isFig; rfl)) fun H1 e1 => k H1 e1
/-- a deed's line; the deed a list or a tuple -/
def spLine : Sp := fun vs H Q _ => ∃ (a : Addr) (k : Str) (ns : List Nat), vs = [.ref a] ∧ SeqAt H a (.str k :: intsV ns) ∧ k.length ≤ 100 ∧ ns.length ≤ 10 ∧ (∀ n ∈ ns, n < 10 ^ 200) ∧ ∀ H', Ex H H' → Q (.str (lineOf (k, ns))) H'
abbrev s_line_of_deed : Stmt := top 12
theorem sc_line_of_deed : FnScope ["deed", "part"] ["deed"] (defScope s_line_of_deed) := ⟨rfl, rfl, rfl, by decide +kernel, rfl, by decide +kernel, by decide +kernel⟩
theorem line_size {k : Str} {ns : List Nat} (hk : k.length ≤ 100) (hn : ns.length ≤ 10) (hb : ∀ n ∈ ns, n < 10 ^ 200) : ((k :: ns.map dstr).map (·.length)).sum + (k :: ns.map dstr).length * (" " : Str).length ≤ 2200 := by
  have h1 : ((k :: ns.map dstr).map (·.length)).sum = k.length + ((ns.map dstr).map (·.length)).sum := by simp
  have h2 := sum_le (l := (ns.map dstr).map (·.length)) (m := 200) fun x hx => by
    obtain ⟨y, hy, rfl⟩ := List.mem_map.mp hx
    obtain ⟨n, hn', rfl⟩ := List.mem_map.mp hy
    exact dstr_len (hb n hn')
  rw [List.length_map, List.length_map] at h2
  have h3 : (" " : Str).length = 1 := rfl
  rw [h1, h3, List.length_cons, List.length_map]
  omega
theorem ok_line (F : Fun K "line_of_deed" "line_of_deed" s_line_of_deed f fd) (T : Blt mg) : FnOk P w K mg base CX0 1 f fd ["deed"] spLine := by
  refine F.ok sc_line_of_deed (fun vs H Q E h => ?_) (fun cdv A outer s H vs Q E hr h => ?_)
  · obtain ⟨a, k, ns, rfl, _⟩ := h
    rfl
  · obtain ⟨a, k, ns, rfl, ha, hk, hn, hb, q⟩ := h
    refine ⟨_, (pss_one (ps_ret (pe_op op_add_str (pe_join pe_str (pe_lc (own := [("part", 1)]) (g := gName 1) (tt := tYes) (te := (tCB rStrO (tCons (tVar 1) tNil))) rfl sc_line_of_deed.nd (pi_or (pi_list (pv 0)) (pi_tup (pv 0))) (blkOk_by (own := [("part", 1)]) (by kernel_rfl)) (fun _ _ _ _ _ => (pg_name (i := 1) sc_line_of_deed.nd rfl (by first | exact Or.inl rfl | exact Or.inr rfl))) (fun _ _ _ _ _ => pts_nil) (fun _ _ _ _ _ => by exact (pe_callTy call_strO (by rfl) T.b_str (by decide +kernel) (pa_cons (pv 1) pa_nil))))) pe_str))), ?_⟩
    have hs := line_size hk hn hb
    -- what is written of each part
    have mp := el_mapS (K := K) (σ := [some (.ref a), none]) (H := H) (te := tCB rStrO (tCons (tVar 1) tNil)) (tl := tVar 0) (l := (Sum.inl k :: ns.map Sum.inr : List (Str ⊕ Nat))) (f := fun z => match z with | .inl s => V.str s | .inr n => V.int (n : Int)) (g := fun z => match z with | .inl s => V.str s | .inr n => V.str (dstr n)) (j := 1) (ev_var rfl) (by
        have e : (Sum.inl k :: ns.map Sum.inr : List (Str ⊕ Nat)).map (fun z => match z with | .inl s => V.str s | .inr n => V.int (n : Int)) = V.str k :: intsV ns := by
          rw [List.map_cons, List.map_map]
          rfl
        rw [e]
        exact ha) (by simp; omega) fun x hx H1 e1 H2 e2 Q2 q2 => by
          rcases List.mem_cons.mp hx with rfl | hx
          · exact ⟨_, rfl, .inr ⟨k, rfl, q2 H2 (Ex.refl _)⟩⟩
          · obtain ⟨n, hn', rfl⟩ := List.mem_map.mp hx
            exact ⟨_, rfl, .inl ⟨(n : Int), rfl, lg_ok (hb n hn'), q2 H2 (Ex.refl _)⟩⟩
    have e2 : (Sum.inl k :: ns.map Sum.inr : List (Str ⊕ Nat)).map (fun z => match z with | .inl s => V.str s | .inr n => V.str (dstr n)) = (k :: ns.map dstr).map V.str := by
      rw [List.map_cons, List.map_map, List.map_cons, List.map_map]
      rfl
    rw [e2] at mp
    refine ⟨⟨_, rfl⟩, mp H (Ex.refl _) _ fun D H1 nD e1 hD => ?_⟩
    have hsz := join_len " " (k :: ns.map dstr)
    refine ⟨" ", D, k :: ns.map dstr, rfl, rfl, .inl (SqL.of hD), by omega, _, _, rfl, rfl, ?_, q H1 e1⟩
    have : ("\n" : Str).length = 1 := rfl
    exact sz_of (by omega)
end
end Lm

namespace Lm
open PySem L2 Evl RZ TL
theorem str_eqD (x y : Str) : decide (V.str x = V.str y) = decide (x = y) := by
  have e : (V.str x = V.str y) = (x = y) := propext ⟨V.str.inj, congrArg _⟩
  simp only [e]
theorem ten_le {n m : Nat} (h : n ≤ m) : 10 ^ n ≤ 10 ^ m := Nat.pow_le_pow_right (by decide) h
section
variable {P : Program} {w : World} {K : PySem.W.Frag} {mg : Str → Option Value} {base : Heap} {f : Addr} {fd : FuncData}
/-- a line with or without its line feed -/
def lnOf (nl : Bool) (l : Str) : Str := if nl = true then l ++ "\n" else l
def outOf (nl : Bool) (l : Str) : Option Deed := if nl = true then deedL l else none
def spDeedOf : Sp := fun vs H Q _ => ∃ (nl : Bool) (l : Str), vs = [.str (lnOf nl l)] ∧ 10 ∉ tl l ∧ l.length ≤ 100 ∧ (∀ d, outOf nl l = some d → ∀ p H', H p = none → Ex H H' → H' p = some (.tup (.str d.1 :: intsV d.2)) → Q (.ref p) H') ∧ (outOf nl l = none → ∀ H', Ex H H' → Q .non H')
abbrev s_deed_of_line : Stmt := top 13
theorem sc_deed_of_line : FnScope ["line", "kind", "figures", "deed", "part"] ["line"] (defScope s_deed_of_line) := ⟨rfl, rfl, rfl, by decide +kernel, rfl, by decide +kernel, by decide +kernel⟩
theorem ok_deed_of_line {AK AL fI fL : Addr} {dI dL : FuncData} {tD tM : Tok} (F : L2.Fun K "deed_of_line" "deed_of_line" s_deed_of_line f fd) (T : Blt mg) (T' : HiCst K mg AK AL tD tM) (D_is_figures : DefOk P w K mg base 1 "is_figures" fI dI ["part"] spIsFig) (D_line_of_deed : DefOk P w K mg base 1 "line_of_deed" fL dL ["deed"] spLine) :
    FnOk P w K mg base CX0 2 f fd ["line"] spDeedOf := by
  refine F.ok sc_deed_of_line (fun vs H Q E h => ?_) (fun cdv A outer s H vs Q E hr h => ?_)
  · obtain ⟨nl, l, rfl, _⟩ := h
    rfl
  · obtain ⟨nl, l, rfl, h10, hl, kS, kN⟩ := h
    refine ⟨_, (pss_cons (ps_asg (pe_split (pe_m1 PySem.F.slot_str_rstrip PySem.F.type_str_rstrip mt_rstripChars (pv 0) pe_str) pe_str) (pg_star (n := 2) (i := 1) rfl (pgs_cons (pg_name (i := 1) sc_deed_of_line.nd rfl (by first | exact Or.inl rfl | exact Or.inr rfl)) (pgs_star (pg_name (i := 2) sc_deed_of_line.nd rfl (by first | exact Or.inl rfl | exact Or.inr rfl)) pgs_nil)) (by decide)))
        (pss_cons (ps_if (PW.pt (pw_or (pt_cmpR op_notIn_seq (pv 1) (pe_glob (v := .ref AK) rfl T'.g_KINDS rfl) (by rfl)) (pw_or1 (pt_cmpR op_ne (pe_callB call_len_seq (by rfl) T.b_len PySem.boot_len (pa_cons (pv 2) pa_nil)) (pe_ifExp (pt_cmpR op_in_seq (pv 1) (pe_glob (v := .ref AL) rfl T'.g_LEADING rfl) (by rfl)) pe_int pe_int) (nomark _))))) (pss_one (ps_ret pe_non)) pss_nil)
        (pss_cons (ps_if (pt_not (pt_val (pe_callB (cr_all rfl) (by rfl) T.b_all (by decide +kernel) (by exact (pa_cons (pe_lc (own := [("part", 4)]) (g := gName 4) (tt := tYes) (te := (tCall spIsFig [] E0 (tCons (tVar 4) tNil))) rfl sc_deed_of_line.nd (pi_list (pv 2)) (blkOk_by (own := [("part", 4)]) (by kernel_rfl)) (fun _ _ _ _ _ => (pg_name (i := 4) sc_deed_of_line.nd rfl (by first | exact Or.inl rfl | exact Or.inr rfl))) (fun _ _ _ _ _ => pts_nil) (fun _ _ _ _ _ => by exact (pe_d D_is_figures (hr.mono (by decide)) (pa_cons (pv 4) pa_nil)))) pa_nil))))) (pss_one (ps_ret pe_non)) pss_nil)
        (pss_cons (ps_set (i := 3) sc_deed_of_line.nd rfl (by first | exact Or.inl rfl | exact Or.inr rfl) (pe_tup (by exact (pa_cons (pv 1) (StX.pa_star (pe_lc (own := [("part", 4)]) (g := gName 4) (tt := tYes) (te := (tCB rIntS (tCons (tVar 4) tNil))) rfl sc_deed_of_line.nd (pi_list (pv 2)) (blkOk_by (own := [("part", 4)]) (by kernel_rfl)) (fun _ _ _ _ _ => (pg_name (i := 4) sc_deed_of_line.nd rfl (by first | exact Or.inl rfl | exact Or.inr rfl))) (fun _ _ _ _ _ => pts_nil) (fun _ _ _ _ _ => by exact (pe_callTy call_int_str (by rfl) T.b_int (by decide +kernel) (pa_cons (pv 4) pa_nil)))) pa_nil)))))
        (pss_cons (ps_if (PW.pt (pw_and (pt_cmpR op_lt (pe_ix ix_tup (pv 3) pe_int (fun _ _ => rfl)) (pe_glob (v := c_MOST_DEVICES) rfl T'.g_MOST_DEVICES ⟨_, rfl⟩) (nomark _)) (pw_and1 (pt_cmpR op_eq (pe_d D_line_of_deed (hr.mono (by decide)) (pa_cons (pv 3) pa_nil)) (pv 0) (nomark _))))) (pss_one (ps_ret (pv 3))) pss_nil)
        (pss_one (ps_ret pe_non))))))), ?_⟩
    have hLl : (lnOf nl l).length ≤ 101 := by
      unfold lnOf
      split
      · rw [len_app]
        have : ("\n" : Str).length = 1 := rfl
        omega
      · omega
    have hstr : Txt.rstripChars (lnOf nl l) "\n" = l := by
      unfold lnOf
      split
      · exact rstrip_nl h10
      · exact rstrip_free h10
    refine ⟨_, rfl, ⟨_, rfl⟩, _, _, rfl, rfl, sz_of (by omega), ⟨_, rfl⟩, l, " ", by rw [hstr], rfl, rfl, sz_of (by omega), fun p np => ?_⟩
    obtain ⟨k, fs, hw⟩ : ∃ k fs, wordsOf l = k :: fs := by
      cases h : wordsOf l with
      | nil => exact absurd h (words_ne l)
      | cons a b => exact ⟨a, b, rfl⟩
    have hwl := words_len l
    rw [hw] at hwl
    have hsp : Txt.split l " " = k :: fs := hw
    rw [hsp]
    refine ⟨p, _, rfl, SqL.of upd_same, by simp, fun Lf nL => ?_⟩
    have e1 : ((k :: fs).map V.str).take 1 ++ [V.ref Lf] ++ (((k :: fs).map V.str).drop 1).drop (((k :: fs).map V.str).length - (2 - 1)) = [V.str k, .ref Lf] := by simp
    have e2 : (((k :: fs).map V.str).drop 1).take (((k :: fs).map V.str).length - (2 - 1)) = fs.map V.str := by
      rw [List.map_cons, List.drop_succ_cons, List.drop_zero]
      exact List.take_of_length_le (by simp)
    rw [e1, e2]
    refine ⟨_, _, rfl, _, _, rfl, rfl, ?_⟩
    dsimp only [L2.start, List.set]
    have np1 : H p = none := np
    have s0 := Ex.new np (o := .lst ((k :: fs).map V.str))
    have s1 := Ex.trans s0 (Ex.new nL (o := .lst (fs.map V.str)))
    have hLf : (upd (upd H p (.lst ((k :: fs).map V.str))) Lf (.lst (fs.map V.str))) Lf = some (.lst (fs.map V.str)) := upd_same
    generalize upd (upd H p (.lst ((k :: fs).map V.str))) Lf (.lst (fs.map V.str)) = H1 at s1 hLf
    have lf : fs.length ≤ 101 := by have := words_count l; rw [hw] at this; simp at this; omega
    -- kind and number of figures
    have hD : deedL l = if k ∈ kindsS ∧ fs.length = cntOf k ∧ fs.all canon = true ∧ (fs.map valOf).headD 3 < 3 then some (k, fs.map valOf) else none := by
      unfold deedL
      rw [hw]
      rfl
    have noD : (¬ (k ∈ kindsS ∧ fs.length = cntOf k ∧ fs.all canon = true ∧ (fs.map valOf).headD 3 < 3)) → outOf nl l = none := fun h => by
      unfold outOf
      rw [hD, if_neg h]
      split <;> rfl
    have evK : ∀ {H' : Hp} (neg : Bool), Ev (tOp (rIn K neg) (tVar 1) (tC (.ref AK))) [some (.str (lnOf nl l)), some (.str k), some (.ref Lf), none, none] H' (.bl (if neg then !decide (k ∈ kindsS) else decide (k ∈ kindsS))) := fun neg H2 e2 Q q => ⟨_, rfl, AK, kindsS.map V.str, rfl, .inr (T'.hK H2), rfl, strs_flat1 _, by
      rw [strs_in1]
      exact q H2 (Ex.refl _)⟩
    have evL : Ev (tOp (rIn K false) (tVar 1) (tC (.ref AL))) [some (.str (lnOf nl l)), some (.str k), some (.ref Lf), none, none] H1 (.bl (decide (k ∈ leadS))) := fun H2 e2 Q q => ⟨_, rfl, AL, leadS.map V.str, rfl, .inr (T'.hL H2), rfl, strs_flat1 _, by
      rw [strs_in1]
      exact q H2 (Ex.refl _)⟩
    have evC : Ev (tIf (tTest (tOp (rIn K false) (tVar 1) (tC (.ref AL)))) (tC (.int 2)) (tC (.int 1))) [some (.str (lnOf nl l)), some (.str k), some (.ref Lf), none, none] H1 (.int (cntOf k : Nat)) := by
      refine ev_if (et_test evL) (fun h => ?_) (fun h => ?_)
      · have : cntOf k = 2 := by unfold cntOf; rw [if_pos (of_decide_eq_true h)]
        rw [this]; exact ev_c
      · have : cntOf k = 1 := by unfold cntOf; rw [if_neg (of_decide_eq_false h)]
        rw [this]; exact ev_c
    refine q_when (et_or (et_test (evK true)) fun _ => et_test (ev_op (ev_lenL (ev_var rfl) hLf) evC (rv_ne rfl))) (fun hb H2 e2 => ?_) (fun hb H2 e2 => ?_)
    · refine s_ret ev_c fun H3 e3 => kN (noD fun z => ?_) H3 (Ex.trans s1 (Ex.trans e2 e3))
      rw [Bool.or_eq_true] at hb
      rcases hb with hb | hb
      · simp [z.1] at hb
      · simp [z.2.1] at hb
    rw [Bool.or_eq_false_iff] at hb
    obtain ⟨hb1, hb2⟩ := hb
    have hk : k ∈ kindsS := by simpa using hb1
    have hc : fs.length = cntOf k := by
      have : ¬ ¬ V.int ((fs.map V.str).length : Int) = V.int (cntOf k : Nat) := by simpa using hb2
      have := V.int.inj (Decidable.not_not.mp this)
      rw [List.length_map] at this
      omega
    have lc : fs.length ≤ 2 := by rw [hc]; unfold cntOf; split <;> omega
    have hk100 : k.length ≤ 100 := by have := hwl k (by simp); omega
    have hf100 : ∀ x ∈ fs, x.length ≤ 100 := fun x hx => by have := hwl x (by simp [hx]); omega
    -- figures
    have alF := ev_all (K := K) (bs := fs.map isFig) (by
      rw [List.map_map]
      exact el_mapL (K := K) (σ := [some (.str (lnOf nl l)), some (.str k), some (.ref Lf), none, none]) (H := H2) (te := tCall spIsFig [] E0 (tCons (tVar 4) tNil)) (tl := tVar 2) (l := fs) (f := V.str) (g := fun x => V.bl (isFig x)) (j := 4) (ev_var rfl) (e2 _ _ hLf) (by omega) fun x hx H3 e3 H4 e4 Q q => ⟨_, rfl, x, rfl, by have := hf100 x hx; omega, fun H5 e5 => q H5 e5⟩)
    refine q_when (et_not (et_B alF)) (fun hb H3 e3 => ?_) (fun hb H3 e3 => ?_)
    · refine s_ret ev_c fun H4 e4 => kN (noD fun z => ?_) H4 (Ex.trans s1 (Ex.trans e2 (Ex.trans e3 e4)))
      have hall := z.2.2.1
      have : (fs.map isFig).all id = true := by
        rw [List.all_map]
        exact List.all_eq_true.mpr fun x hx => by
          have := List.all_eq_true.mp hall x hx
          unfold canon at this
          rw [Bool.and_eq_true] at this
          exact this.1
      rw [this] at hb
      cases hb
    have hfig : ∀ x ∈ fs, isFig x = true := by
      have : (fs.map isFig).all id = true := by simpa using hb
      rw [List.all_map] at this
      exact List.all_eq_true.mp this
    have e13 := Ex.trans e2 e3
    have s3 := Ex.trans s1 e13
    have hLf3 := e13 _ _ hLf
    have hv : ∀ x ∈ fs, valOf x < 10 ^ 200 := fun x hx => Nat.lt_of_lt_of_le (valOf_lt (isFig_digits (hfig x hx)).1) (ten_le (by have := hf100 x hx; omega))
    have elI := el_mapL (K := K) (σ := [some (.str (lnOf nl l)), some (.str k), some (.ref Lf), none, none]) (H := H3) (te := tCB rIntS (tCons (tVar 4) tNil)) (tl := tVar 2) (l := fs) (f := V.str) (g := fun x => V.int (valOf x : Nat)) (j := 4) (ev_var rfl) hLf3 (by omega) fun x hx H4 e4 H5 e5 Q q => ⟨_, rfl, x, _, rfl, int_fig (hfig x hx) (by have := hf100 x hx; omega), by have := hf100 x hx; omega, q H5 (Ex.refl _)⟩
    refine ⟨_, rfl, elI H3 (Ex.refl _) _ fun D H4 nD e4 hD4 => ⟨D, _, rfl, .inr (SqL.of hD4), sz_of (by simp; omega), fun t nt => ?_⟩⟩
    have e5 := Ex.new nt (o := .tup (V.str k :: (fs.map (fun x => V.int (valOf x : Nat)) ++ [])))
    have ht : (upd H4 t (.tup (V.str k :: (fs.map (fun x => V.int (valOf x : Nat)) ++ [])))) t = some (.tup (V.str k :: intsV (fs.map valOf))) := by
      rw [upd_same, List.append_nil]
      unfold intsV
      rw [List.map_map]
      rfl
    have ntH : H t = none := fresh_back (Ex.trans s3 e4) nt
    have s5 := Ex.trans s3 (Ex.trans e4 e5)
    generalize upd H4 t (.tup (V.str k :: (fs.map (fun x => V.int (valOf x : Nat)) ++ []))) = H5 at ht s5
    dsimp only [List.set]
    obtain ⟨x0, fr, hfs⟩ : ∃ x0 fr, fs = x0 :: fr := by
      cases h : fs with
      | nil => rw [h] at hc; unfold cntOf at hc; simp at hc; split at hc <;> omega
      | cons a b => exact ⟨a, b, rfl⟩
    have ln : (fs.map valOf).length ≤ 10 := by rw [List.length_map]; omega
    have evLn : Ev (tCall spLine [] E0 (tCons (tVar 3) tNil)) [some (.str (lnOf nl l)), some (.str k), some (.ref Lf), some (.ref t), none] H5 (.str (lineOf (k, fs.map valOf))) := fun H6 e6 Q q => ⟨_, rfl, t, k, fs.map valOf, rfl, .inr (e6 _ _ ht), hk100, ln, fun n hn => by
      obtain ⟨x, hx, rfl⟩ := List.mem_map.mp hn
      exact hv x hx, fun H7 e7 => q H7 e7⟩
    have ev0 : Ev (tOp (rIxT K) (tVar 3) (tC (.int 1))) [some (.str (lnOf nl l)), some (.str k), some (.ref Lf), some (.ref t), none] H5 (.int (valOf x0 : Nat)) := ev_op (ev_var rfl) ev_c (rv_ixT (SqT.of ht) (atI_n1 (n := 1) (by rw [hfs]; rfl)))
    refine q_when (et_and (et_test (ev_op ev0 ev_c rv_I0)) fun _ => et_test (ev_op evLn (ev_var rfl) (rv_eq rfl))) (fun hb H6 e6 => ?_) (fun hb H6 e6 => ?_)
    · rw [Bool.and_eq_true] at hb
      have h3 := of_decide_eq_true hb.1
      have h4 : lineOf (k, fs.map valOf) = lnOf nl l := V.str.inj (of_decide_eq_true hb.2)
      cases nl with
      | false => exact absurd h4 (line_ne h10)
      | true =>
        have h5 := (line_iff hw hk).mp h4
        have hout : outOf true l = some (k, fs.map valOf) := by
          show deedL l = _
          rw [hD, if_pos ⟨hk, hc, List.all_eq_true.mpr fun x hx => by
            unfold canon
            rw [hfig x hx, Bool.true_and]
            exact decide_eq_true (h5 x hx), by rw [hfs]; show valOf x0 < 3; omega⟩]
        exact s_ret (ev_var rfl) fun H7 e7 => kS _ hout t H7 ntH (Ex.trans s5 (Ex.trans e6 e7)) (Ex.trans e6 e7 _ _ ht)
    · refine s_ret ev_c fun H7 e7 => kN ?_ H7 (Ex.trans s5 (Ex.trans e6 e7))
      cases nl with
      | false => rfl
      | true =>
        refine noD fun z => ?_
        have h3 : valOf x0 < 3 := by have := z.2.2.2; rw [hfs] at this; exact this
        have h4 : lineOf (k, fs.map valOf) = lnOf true l := (line_iff hw hk).mpr fun x hx => by
          have := List.all_eq_true.mp z.2.2.1 x hx
          unfold canon at this
          rw [Bool.and_eq_true] at this
          exact of_decide_eq_true this.2
        rw [h4, decide_eq_true (by omega : ((valOf x0 : Nat) : Int) < 3)] at hb
        simp at hb
end
end Lm

namespace Lm
open PySem L2 Evl RZ TL
/-! ### texts of deeds -/
/-- the lines ahead of the last one -/
def headL (x : Str) : List Str := (linesOf x).dropLast
def lastL (x : Str) : Str := (linesOf x).getLastD ""
theorem lines_eq (x : Str) : linesOf x = headL x ++ [lastL x] := by
  unfold headL lastL
  cases h : linesOf x with
  | nil => exact absurd h (lines_ne x)
  | cons a r =>
    rw [List.getLastD_eq_getLast?, List.getLast?_eq_some_getLast (by simp)]
    exact (List.dropLast_concat_getLast (by simp)).symm
/-- the lines with their line feeds -/
def fullL (x : Str) : List (Bool × Str) := (headL x).map (fun l => (true, l)) ++ if lastL x = "" then [] else [(false, lastL x)]
/-- short lines, and not too many -/
structure TxOk (x : Str) : Prop where
  len : x.length ≤ 10000
  ln : ∀ l ∈ linesOf x, l.length ≤ 100
theorem TxOk.full {x : Str} (h : TxOk x) : ∀ z ∈ fullL x, z.2.length ≤ 100 ∧ 10 ∉ tl z.2 := fun z hz => by
  have hm : z.2 ∈ linesOf x := by
    rw [lines_eq]
    unfold fullL at hz
    rcases List.mem_append.mp hz with hz | hz
    · obtain ⟨l, hl, rfl⟩ := List.mem_map.mp hz
      exact List.mem_append_left _ hl
    · split at hz
      · cases hz
      · rw [List.mem_singleton.mp hz]
        simp
  exact ⟨h.ln _ hm, lines_free x _ hm⟩
theorem TxOk.count {x : Str} (h : TxOk x) : (linesOf x).length ≤ 10001 := Nat.le_trans (lines_count x) (by have := h.len; omega)
theorem full_len (x : Str) : (fullL x).length ≤ (linesOf x).length := by
  rw [lines_eq]
  unfold fullL
  rw [List.length_append, List.length_append, List.length_map]
  split <;> simp
section
variable {K : PySem.W.Frag} {σ : L2.St} {H : Hp} {te : TE}
theorem ev_line {l : Str} {i : Nat} (hi : σ[i]? = some (some (.str l))) (hl : l.length ≤ 1000) : Ev (fun σ H Q => tJs [tFmt (tVar i), tC (.str "\n")] Str.empty σ H fun out H1 => Q (.str out) H1) σ H (.str (l ++ "\n")) := fun H1 e Q q => by
  have h1 : (Str.empty ++ l : Str) = l := ext_tl (by rw [tl_append]; rfl)
  have h2 : ("\n" : Str).length = 1 := rfl
  refine ⟨_, hi, .inl ⟨l, rfl, sz_of (by omega), l, rfl, by rw [h1]; exact sz_of (by omega), "\n", rfl, by rw [h1, len_app]; exact sz_of (by omega), ?_⟩⟩
  rw [h1]
  exact q H1 (Ex.refl _)
theorem ev_isN {te : TE} {x : V} (h : Ev te σ H x) : Ev (tOp rIsN te (tC .non)) σ H (.bl (decide (x = .non))) := fun H1 e1 Q q => h H1 e1 _ fun H2 e2 => ⟨rfl, q H2 e2⟩
end
section
variable {P : Program} {w : World} {K : PySem.W.Frag} {mg : Str → Option Value} {base : Heap} {f : Addr} {fd : FuncData}
def spLines : Sp := fun vs H Q _ => ∃ x : Str, vs = [.str x] ∧ TxOk x ∧ ∀ p H', H p = none → Ex H H' → H' p = some (.lst ((fullL x).map fun z => V.str (lnOf z.1 z.2))) → Q (.ref p) H'
abbrev s_lines_of : Stmt := top 1
theorem sc_lines_of : FnScope ["text", "lines", "rest", "whole", "line"] ["text"] (defScope s_lines_of) := ⟨rfl, rfl, rfl, by decide +kernel, rfl, by decide +kernel, by decide +kernel⟩
theorem ok_lines_of (F : L2.Fun K "lines_of" "lines_of" s_lines_of f fd) : FnOk P w K mg base CX0 1 f fd ["text"] spLines := by
  refine F.ok sc_lines_of (fun vs H Q E h => ?_) (fun cdv A outer s H vs Q E hr h => ?_)
  · obtain ⟨x, rfl, _⟩ := h
    rfl
  · obtain ⟨x, rfl, hx, k⟩ := h
    refine ⟨_, (pss_cons (ps_asg (pe_split (pv 0) pe_str) (pg_star (n := 2) (i := 0) rfl (pgs_star (pg_name (i := 1) sc_lines_of.nd rfl (by first | exact Or.inl rfl | exact Or.inr rfl)) (pgs_cons (pg_name (i := 2) sc_lines_of.nd rfl (by first | exact Or.inl rfl | exact Or.inr rfl)) pgs_nil)) (by decide)))
        (pss_cons (ps_setLc (i := 3) (own := [("line", 4)]) (g := gName 4) (tt := tYes) (te := (fun σ H Q => tJs [(tFmt (tVar 4)), (tC (.str "\n"))] Str.empty σ H fun out H1 => Q (.str out) H1)) rfl sc_lines_of.nd rfl rfl (sw_true rfl rfl rfl (by decide +kernel)) (pi_list (pv 1)) (blkOk_by (own := [("line", 4)]) (by kernel_rfl)) (fun _ _ _ _ _ => (pg_name (i := 4) sc_lines_of.nd rfl (by first | exact Or.inl rfl | exact Or.inr rfl))) (fun _ _ _ _ _ => pts_nil) (fun _ _ _ _ _ => by exact (pe_joined (.cons (pe_fmt (pv 4)) (.cons pe_str .nil)))))
        (pss_one (ps_ret (pe_ifExp (pt_cmpR op_eq (pv 2) pe_str (nomark _)) (pv 3) (pe_lst (StX.pa_star (pv 3) (pa_cons (pv 2) pa_nil)))))))), ?_⟩
    have hlen := hx.len
    refine ⟨_, rfl, ⟨_, rfl⟩, x, "\n", rfl, rfl, rfl, sz_of (by omega), fun p np => ?_⟩
    have hsp : Txt.split x "\n" = headL x ++ [lastL x] := lines_eq x
    rw [hsp]
    refine ⟨p, _, rfl, SqL.of upd_same, by simp, fun L nL => ?_⟩
    have e1 : ((headL x ++ [lastL x]).map V.str).take 0 ++ [V.ref L] ++ (((headL x ++ [lastL x]).map V.str).drop 0).drop (((headL x ++ [lastL x]).map V.str).length - (2 - 1)) = [V.ref L, .str (lastL x)] := by
      rw [List.take_zero, List.drop_zero, List.map_append, List.length_append, List.length_map]
      show [] ++ [V.ref L] ++ _ = _
      rw [List.drop_append]
      simp
    have e2 : (((headL x ++ [lastL x]).map V.str).drop 0).take (((headL x ++ [lastL x]).map V.str).length - (2 - 1)) = (headL x).map V.str := by
      rw [List.drop_zero, List.map_append, List.length_append, List.length_map]
      exact List.take_left' (by simp)
    rw [e1, e2]
    refine ⟨_, _, rfl, _, _, rfl, rfl, ?_⟩
    dsimp only [L2.start, List.set]
    have s0 := Ex.new np (o := .lst ((headL x ++ [lastL x]).map V.str))
    have s1 := Ex.trans s0 (Ex.new nL (o := .lst ((headL x).map V.str)))
    have hL : (upd (upd H p (.lst ((headL x ++ [lastL x]).map V.str))) L (.lst ((headL x).map V.str))) L = some (.lst ((headL x).map V.str)) := upd_same
    generalize upd (upd H p (.lst ((headL x ++ [lastL x]).map V.str))) L (.lst ((headL x).map V.str)) = H1 at s1 hL
    have hc := hx.count
    have hcl : (headL x).length ≤ 10001 := by rw [lines_eq] at hc; simp at hc; omega
    have hl1 : ∀ l ∈ headL x, l.length ≤ 100 := fun l hl => hx.ln l (by rw [lines_eq]; exact List.mem_append_left _ hl)
    refine q_asgL (el_mapL (K := K) (σ := [some (.str x), some (.ref L), some (.str (lastL x)), none, none]) (H := H1) (tl := tVar 1) (l := headL x) (f := V.str) (g := fun l => V.str (l ++ "\n")) (j := 4) (ev_var rfl) hL (by omega) fun l hl H2 e2 => ev_line rfl (by have := hl1 l hl; omega)) fun D H2 nD e2 hD => ?_
    have s2 := Ex.trans s1 e2
    have nD0 : H D = none := fresh_back s1 nD
    refine ⟨_, rfl, rfl, _, rfl, ?_⟩
    have hfu : (fullL x).map (fun z => V.str (lnOf z.1 z.2)) = (headL x).map (fun l => V.str (l ++ "\n")) ++ if lastL x = "" then [] else [V.str (lastL x)] := by
      unfold fullL
      rw [List.map_append, List.map_map]
      split <;> rfl
    refine ite2 (fun h => ?_) (fun h => ?_)
    · have h : lastL x = "" := V.str.inj (of_decide_eq_true h)
      refine ⟨_, rfl, k D H2 nD0 s2 ?_⟩
      rw [hfu, if_pos h, List.append_nil]
      exact hD
    · have h : ¬ lastL x = "" := fun z => h (decide_eq_true (congrArg V.str z))
      refine ⟨_, rfl, D, _, rfl, .inr (SqL.of hD), _, rfl, sz_of (by simp; omega), fun t nt => k t _ (fresh_back s2 nt) (Ex.trans s2 (Ex.new nt)) ?_⟩
      rw [upd_same, hfu, if_neg h]
/-- deeds as they stand, lists or tuples -/
def DeedsAt (H : Hp) (xs : List V) (ds : List Deed) : Prop := xs.length = ds.length ∧ ∀ (i : Nat) v d, xs[i]? = some v → ds[i]? = some d → ∃ p : Addr, v = .ref p ∧ SeqAt H p (.str d.1 :: intsV d.2)
theorem DeedsAt.same {H H' : Hp} {xs : List V} {ds : List Deed} (h : DeedsAt H xs ds) (e : Ex H H') : DeedsAt H' xs ds := ⟨h.1, fun i v d a b => let ⟨p, h1, h2⟩ := h.2 i v d a b; ⟨p, h1, seq_same h2 e⟩⟩
/-- … tuples -/
def DeedsT (H : Hp) (xs : List V) (ds : List Deed) : Prop := xs.length = ds.length ∧ ∀ (i : Nat) v d, xs[i]? = some v → ds[i]? = some d → ∃ p : Addr, v = .ref p ∧ H p = some (.tup (.str d.1 :: intsV d.2))
theorem DeedsT.at_ {H : Hp} {xs : List V} {ds : List Deed} (h : DeedsT H xs ds) : DeedsAt H xs ds := ⟨h.1, fun i v d a b => let ⟨p, h1, h2⟩ := h.2 i v d a b; ⟨p, h1, .inr h2⟩⟩
theorem DeedsT.app {H : Hp} {xs : List V} {ds : List Deed} {p : Addr} {d : Deed} (h : DeedsT H xs ds) (hp : H p = some (.tup (.str d.1 :: intsV d.2))) : DeedsT H (xs ++ [.ref p]) (ds ++ [d]) := ⟨by simp [h.1], fun i v e a b => by
  rcases Nat.lt_or_ge i xs.length with q | q
  · rw [List.getElem?_append_left q] at a
    rw [List.getElem?_append_left (by rw [← h.1]; exact q)] at b
    exact h.2 i v e a b
  · rw [List.getElem?_append_right q] at a
    rw [List.getElem?_append_right (by rw [← h.1]; exact q), ← h.1] at b
    have hi : i - xs.length = 0 := by have := (List.getElem?_eq_some_iff.mp a).1; simp at this; omega
    rw [hi] at a b
    cases a
    cases b
    exact ⟨p, rfl, hp⟩⟩
theorem DeedsT.kp {H H' : Hp} {q : Addr} {xs ys : List V} {ds : List Deed} (h : DeedsT H xs ds) (e : Kp q H H') (hq : H q = some (.lst ys)) : DeedsT H' xs ds := ⟨h.1, fun i v d a b => let ⟨p, h1, h2⟩ := h.2 i v d a b; ⟨p, h1, e _ _ (ne_of h2 hq (by intro z; cases z)) h2⟩⟩
theorem DeedsT.same {H H' : Hp} {xs : List V} {ds : List Deed} (h : DeedsT H xs ds) (e : Ex H H') : DeedsT H' xs ds := ⟨h.1, fun i v d a b => let ⟨p, h1, h2⟩ := h.2 i v d a b; ⟨p, h1, e _ _ h2⟩⟩
/-- deeds of which lines can be written -/
structure DSm (d : Deed) : Prop where
  k : d.1.length ≤ 100
  n : d.2.length ≤ 10
  b : ∀ n ∈ d.2, n < 10 ^ 200
def textOf (ds : List Deed) : Str := Txt.join "" (ds.map lineOf)
theorem lineOf_len {d : Deed} (h : DSm d) : (lineOf d).length ≤ 2201 := by
  unfold lineOf
  rw [len_app]
  have h1 := join_len " " (d.1 :: d.2.map dstr)
  have h2 := line_size h.k h.n h.b
  have h3 : ("\n" : Str).length = 1 := rfl
  omega
def spHistText : Sp := fun vs H Q _ => ∃ (a : Addr) (xs : List V) (ds : List Deed), vs = [.ref a] ∧ SeqAt H a xs ∧ DeedsAt H xs ds ∧ ds.length ≤ 1000 ∧ (∀ d ∈ ds, DSm d) ∧ ∀ H', Ex H H' → Q (.str (textOf ds)) H'
abbrev s_history_text : Stmt := top 10
theorem sc_history_text : FnScope ["history", "deed"] ["history"] (defScope s_history_text) := ⟨rfl, rfl, rfl, by decide +kernel, rfl, by decide +kernel, by decide +kernel⟩
theorem ok_hist_text {fL : Addr} {dL : FuncData} (F : L2.Fun K "history_text" "history_text" s_history_text f fd) (D_line_of_deed : DefOk P w K mg base 1 "line_of_deed" fL dL ["deed"] spLine) : FnOk P w K mg base CX0 2 f fd ["history"] spHistText := by
  refine F.ok sc_history_text (fun vs H Q E h => ?_) (fun cdv A outer s H vs Q E hr h => ?_)
  · obtain ⟨a, xs, ds, rfl, _⟩ := h
    rfl
  · obtain ⟨a, xs, ds, rfl, ha, hD, hl, hs, k⟩ := h
    refine ⟨_, (pss_one (ps_ret (pe_join pe_str (pe_lc (own := [("deed", 1)]) (g := gName 1) (tt := tYes) (te := (tCall spLine [] E0 (tCons (tVar 1) tNil))) rfl sc_history_text.nd (pi_or (pi_list (pv 0)) (pi_tup (pv 0))) (blkOk_by (own := [("deed", 1)]) (by kernel_rfl)) (fun _ _ _ _ _ => (pg_name (i := 1) sc_history_text.nd rfl (by first | exact Or.inl rfl | exact Or.inr rfl))) (fun _ _ _ _ _ => pts_nil) (fun _ _ _ _ _ => by exact (pe_d D_line_of_deed (hr.mono (by decide)) (pa_cons (pv 1) pa_nil))))))), ?_⟩
    have hzip : xs = (xs.zip ds).map fun z => z.1 := by rw [List.map_fst_zip (by rw [hD.1]; exact Nat.le_refl _)]
    have hln : (xs.zip ds).map (fun z => V.str (lineOf z.2)) = (ds.map lineOf).map V.str := by
      rw [List.map_map]
      have : (xs.zip ds).map (fun z => V.str (lineOf z.2)) = ((xs.zip ds).map fun z => z.2).map (V.str ∘ lineOf) := by rw [List.map_map]; rfl
      rw [this, List.map_snd_zip (by rw [hD.1]; exact Nat.le_refl _)]
    have mp := el_mapS (K := K) (σ := [some (.ref a), none]) (H := H) (te := tCall spLine [] E0 (tCons (tVar 1) tNil)) (tl := tVar 0) (l := xs.zip ds) (f := fun z => z.1) (g := fun z => V.str (lineOf z.2)) (j := 1) (ev_var rfl) (by rw [← hzip]; exact ha) (by rw [List.length_zip, hD.1]; simp; omega) fun z hz H1 e1 H2 e2 Q2 q2 => by
      obtain ⟨i, hi⟩ := List.mem_iff_getElem?.mp hz
      obtain ⟨g1, g2⟩ := List.getElem?_zip_eq_some.mp hi
      obtain ⟨p, hp, hq⟩ := hD.2 i _ _ g1 g2
      have hsm := hs z.2 (List.mem_of_getElem? g2)
      exact ⟨_, rfl, p, z.2.1, z.2.2, by rw [hp]; rfl, seq_same hq (Ex.trans e1 e2), hsm.k, hsm.n, hsm.b, fun H3 e3 => q2 H3 e3⟩
    rw [hln] at mp
    refine ⟨⟨_, rfl⟩, mp H (Ex.refl _) _ fun D H1 nD e1 hD1 => ?_⟩
    refine ⟨"", D, ds.map lineOf, rfl, rfl, .inl (SqL.of hD1), ?_, k H1 e1⟩
    have h1 := sum_le (l := (ds.map lineOf).map (·.length)) (m := 2201) fun n hn => by
      obtain ⟨y, hy, rfl⟩ := List.mem_map.mp hn
      obtain ⟨d, hd, rfl⟩ := List.mem_map.mp hy
      exact lineOf_len (hs d hd)
    rw [List.length_map, List.length_map] at h1
    have h2 : ("" : Str).length = 0 := rfl
    rw [List.length_map, h2]
    have := Nat.mul_le_mul_right 2201 hl
    omega
/-! ### what a text tells -/
/-- the index of the first line that is none -/
def badAt (x : Str) : Option Nat := (fullL x).findIdx? fun z => (outOf z.1 z.2).isNone
def deedsOf (x : Str) : List Deed := (fullL x).filterMap fun z => outOf z.1 z.2
def spRead (CB : Addr) : Sp := fun vs H Q E => ∃ x : Str, vs = [.str x] ∧ TxOk x ∧ (badAt x = none → ∀ p xs H', H p = none → Ex H H' → H' p = some (.lst xs) → DeedsT H' xs (deedsOf x) → Q (.ref p) H') ∧
  (∀ n, badAt x = some n → ∀ H' d, Ex H H' → H' d = none → E (.ref CB) (some d) (upd H' d (.xd [("line", .int ((n : Int) + 1))])))
abbrev s_read_history : Stmt := top 11
theorem sc_read_history : FnScope ["text", "history", "number", "line", "deed"] ["text"] (defScope s_read_history) := ⟨rfl, rfl, rfl, by decide +kernel, rfl, by decide +kernel, by decide +kernel⟩
theorem findIdx_pre {α : Type} {p : α → Bool} : ∀ {l : List α} {i : Nat}, (∀ j < i, ∀ z, l[j]? = some z → p z = false) → ∀ {z : α}, l[i]? = some z → p z = true → l.findIdx? p = some i
  | [], i, _, z, hz, _ => by simp at hz
  | a :: r, 0, _, z, hz, hp => by cases hz; rw [List.findIdx?_cons, hp]; rfl
  | a :: r, i + 1, h, z, hz, hp => by
    have h0 := h 0 (by omega) a rfl
    rw [List.findIdx?_cons, h0]
    have := findIdx_pre (l := r) (i := i) (fun j hj y hy => h (j + 1) (by omega) y hy) hz hp
    simp [this]
theorem ok_read {CB fX fL fD : Addr} {fdX dL dD : FuncData} (F : L2.Fun K "read_history" "read_history" s_read_history f fd) (T : Blt mg) (TB : ErrF K mg "BadText" CB fX "line") (IB : ErrI P w K mg base CB fX fdX "line") (D_lines_of : DefOk P w K mg base 1 "lines_of" fL dL ["text"] spLines) (D_deed_of_line : DefOk P w K mg base 2 "deed_of_line" fD dD ["line"] spDeedOf) :
    FnOk P w K mg base (L2.CX P w) 3 f fd ["text"] (spRead CB) := by
  refine F.okX sc_read_history (fun vs H Q E h => ?_) (fun cdv A outer s H vs Q E hr h => ?_)
  · obtain ⟨x, rfl, _⟩ := h
    rfl
  · obtain ⟨x, rfl, hx, kG, kB⟩ := h
    refine ⟨_, (pss_cons (ps_set (i := 1) sc_read_history.nd rfl (by first | exact Or.inl rfl | exact Or.inr rfl) (pe_lst pa_nil))
        (pss_cons (ps_for (passes_of rfl) rfl (pi_enumS rfl T.b_enumerate (pa_cons (pe_d D_lines_of (hr.mono (by decide)) (pa_cons (pv 0) pa_nil)) pa_nil) (pk_cons pe_int pk_nil)) (pg_tup rfl (pgs_cons (pg_name (i := 2) sc_read_history.nd rfl (by first | exact Or.inl rfl | exact Or.inr rfl)) (pgs_cons (pg_name (i := 3) sc_read_history.nd rfl (by first | exact Or.inl rfl | exact Or.inr rfl)) pgs_nil))) (pss_cons (ps_set (i := 4) sc_read_history.nd rfl (by first | exact Or.inl rfl | exact Or.inr rfl) (pe_d D_deed_of_line (hr.mono (by decide)) (pa_cons (pv 3) pa_nil)))
        (pss_cons (ps_if (pt_cmpR op_isN1 (pv 4) pe_non (nomark _)) (pss_one (ps_raise rfl (takes_of rfl rfl rfl rfl) (pmk_errF TB IB (hr.mono (by decide)) (pa_cons (pv 2) pa_nil)))) pss_nil)
        (pss_one (ps_expr (pe_bm PySem.F.plainAttrs_list PySem.F.slot_list_append PySem.F.type_list_append mt_append (pv 1) (pa_cons (pv 4) pa_nil)))))))
        (pss_one (ps_ret (pv 1))))), ?_⟩
    have hf := hx.full
    have hc : (fullL x).length ≤ 10001 := Nat.le_trans (full_len x) hx.count
    refine q_asgL (el_lst ea_nil (by decide)) fun hl H1 nhl e1 hhl => ?_
    dsimp only [L2.start, List.set]
    refine ⟨_, rfl, x, rfl, hx, fun lp H2 nlp e2 hlp => ?_⟩
    have hhl2 := e2 _ _ hhl
    have nlp2 : lp ≠ hl := fun z => by rw [z, hhl] at nlp; cases nlp
    have e02 := Ex.trans e1 e2
    refine ⟨lp, _, 1, rfl, rfl, by decide, by decide, SqL.of hlp, for_it walk_enumS (fun i σ' H' => ∃ u2 u3 u4 : Option V, σ' = [some (.str x), some (.ref hl), u2, u3, u4] ∧ Ex H H' ∧ H' lp = some (.lst ((fullL x).map fun z => V.str (lnOf z.1 z.2))) ∧ (∀ j < i, ∀ z, (fullL x)[j]? = some z → (outOf z.1 z.2).isNone = false) ∧ ∃ xs, H' hl = some (.lst xs) ∧ DeedsT H' xs (((fullL x).take i).filterMap fun z => outOf z.1 z.2)) ⟨_, _, _, rfl, e02, hlp, fun j hj => absurd hj (Nat.not_lt_zero _), [], hhl2, rfl, fun i v d a b => by simp at a⟩ (fun i σ' H' _ ⟨_, _, _, _, _, h, _⟩ => SqL.of h) ?_ ?_⟩
    · rintro i v σ' H3 H4 hi ⟨u2, u3, u4, rfl, e3, hlp3, hpre, xs, hxs, hDs⟩ ⟨t, x1, x2, rfl, nt, rfl, hx1, hx2⟩
      cases (Option.some.inj hx1)
      have hx2 : ((fullL x).map fun z => V.str (lnOf z.1 z.2))[i]? = some x2 := hx2
      obtain ⟨z, hz, rfl⟩ := map_inv1 hx2
      have hzf := hf z (List.mem_of_getElem? hz)
      refine ⟨t, _, rfl, SqT.of upd_same, rfl, _, _, rfl, _, _, rfl, rfl, ?_⟩
      dsimp only [List.set]
      have et := Ex.new nt (o := .tup [.int (1 + (i : Nat)), .str (lnOf z.1 z.2)])
      have hlp4 := et _ _ hlp3
      have hxs4 := et _ _ hxs
      have hDs4 := hDs.same et
      have e04 := Ex.trans e3 et
      generalize upd H3 t (.tup [.int (1 + (i : Nat)), .str (lnOf z.1 z.2)]) = H4 at hlp4 hxs4 hDs4 e04
      have lxs : xs.length ≤ 10001 := by rw [hDs.1]; exact Nat.le_trans (List.length_filterMap_le _ _) (by rw [List.length_take]; omega)
      refine ⟨_, rfl, z.1, z.2, rfl, hzf.2, hzf.1, fun d hd p H5 np e5 hp => ?_, fun hd H5 e5 => ?_⟩
      · dsimp only [gName, List.set]
        refine q_when (b := false) (et_is (et_test (ev_isN (ev_var rfl))) (decide_eq_false fun z => nomatch z)) (fun z => nomatch z) fun _ H6 e6 => ?_
        have e46 := Ex.trans e5 e6
        have hxs6 := e46 _ _ hxs4
        refine s_app hxs6 (ev_var rfl) (ev_var rfl) (by omega) fun H7 e7 => ?_
        have e47 := Ex.trans e46 e7
        have hhl0 : H hl = none := nhl
        refine ⟨_, _, _, rfl, Ex.mut (Ex.trans e04 e47) nhl, ?_, fun j hj y hy => ?_, xs ++ [.ref p], upd_same, ?_⟩
        · rw [upd_ne nlp2]
          exact e47 _ _ hlp4
        · rcases Nat.lt_or_ge j i with q | q
          · exact hpre j q y hy
          · have : j = i := by omega
            subst this
            rw [hz] at hy
            cases hy
            rw [hd]
            rfl
        · have h1 : ((fullL x).take (i + 1)).filterMap (fun z => outOf z.1 z.2) = ((fullL x).take i).filterMap (fun z => outOf z.1 z.2) ++ [d] := by
            rw [List.take_succ, hz, List.filterMap_append]
            simp [hd]
          rw [h1]
          exact DeedsT.kp (DeedsT.app (hDs4.same e47) (Ex.trans e6 e7 _ _ hp)) (Kp.upd _ _ _) (e7 _ _ hxs6)
      · dsimp only [gName, List.set]
        refine q_when (b := true) (et_is (et_test (ev_isN (ev_var rfl))) (decide_eq_true rfl)) (fun _ H6 e6 => ?_) (fun z => nomatch z)
        refine go_mkO (ev_var rfl) fun H7 dd e7 nd => ?_
        have hb : badAt x = some i := findIdx_pre hpre hz (by rw [hd]; rfl)
        have := kB i hb H7 dd (Ex.trans e04 (Ex.trans e5 (Ex.trans e6 e7))) nd
        have e1i : (1 : Int) + (i : Nat) = (i : Int) + 1 := by omega
        rw [e1i]
        exact this
    · rintro σ' H3 ⟨u2, u3, u4, rfl, e3, hlp3, hpre, xs, hxs, hDs⟩
      rw [List.length_map, List.take_length] at hDs
      rw [List.length_map] at hpre
      refine s_ret (ev_var rfl) fun H4 e4 => kG ?_ hl xs H4 nhl (Ex.trans e3 e4) (e4 _ _ hxs) (hDs.same e4)
      unfold badAt
      rw [List.findIdx?_eq_none_iff]
      intro z hz
      obtain ⟨j, hj⟩ := List.mem_iff_getElem?.mp hz
      exact hpre j (List.getElem?_eq_some_iff.mp hj).1 z hj
end
end Lm

namespace Lm
open PySem L2 Evl RZ TL
theorem tyx_int {K : PySem.W.Frag} {H : Hp} {z : Int} : TyX K H (.int z) (.type "int") := .base (.int z)
/-- texts and whole numbers -/
def SI (x : V) : Prop := (∃ z, x = .str z) ∨ ∃ n, x = .int n
section
variable {K : PySem.W.Frag} {σ : L2.St} {H : Hp} {te : TE}
theorem ev_isSeqNI {z : Int} (h : Ev te σ H (.int z)) : Ev (tCB (rIsiT K) (tCons te (tCons (tTup (tCons (tC (.ty "list")) (tCons (tC (.ty "tuple")) tNil))) tNil))) σ H (.bl false) := fun H1 e1 Q q => h H1 e1 _ fun H2 e2 =>
  ⟨by show 2 ≤ sizeLine; decide, fun p np => ⟨_, _, _, _, _, false, rfl, upd_same, .cons (.ty _) (.cons (.ty _) .nil), tyx_int, kitAny_cons (b := false) (kit_ty (by decide +kernel)) (fun _ => kitAny_cons (b := false) (kit_ty (by decide +kernel)) (fun _ => kitAny_nil) (fun z => nomatch z)) (fun z => nomatch z), q _ (Ex.trans e2 (Ex.new np))⟩⟩
end
theorem deed_si {d : Deed} : ∀ x ∈ (V.str d.1 :: intsV d.2), SI x := fun x hx => by
  rcases List.mem_cons.mp hx with e | hx
  · exact .inl ⟨_, e⟩
  · obtain ⟨n, _, e⟩ := List.mem_map.mp hx
    exact .inr ⟨_, e.symm⟩
section
variable {P : Program} {w : World} {K : PySem.W.Frag} {mg : Str → Option Value} {base : Heap} {f : Addr} {fd : FuncData}
/-- a text or a number is handed as it is -/
def spDeep0 : Sp := fun vs H Q _ => ∃ (st : Addr) (z : V), vs = [.ref st, z] ∧ SI z ∧ ∀ H', Ex H H' → Q z H'
abbrev s_deep : Stmt := top 22
theorem sc_deep : FnScope ["_law_state", "_law_x", "_law_part"] ["_law_state", "_law_x"] (defScope s_deep) := ⟨rfl, rfl, rfl, by decide +kernel, rfl, by decide +kernel, by decide +kernel⟩
theorem ok_deep0 (F : L2.Fun K "_law_deep" "_law_deep" s_deep f fd) (T : Blt mg) : FnOk P w K mg base CX0 1 f fd ["_law_state", "_law_x"] spDeep0 := by
  refine F.ok sc_deep (fun vs H Q E h => ?_) (fun cdv A outer s H vs Q E hr h => ?_)
  · obtain ⟨st, z, rfl, _⟩ := h
    rfl
  · obtain ⟨st, z, rfl, hz, k⟩ := h
    refine ⟨_, (pss_cons (ps_if (pt_not (pt_val (pe_callB call_isiT (by rfl) T.b_isinstance (by decide +kernel) (pa_cons (pv 1) (pa_cons (pe_tup (pa_cons (pe_bltn (v := .ty "list") (u := .type "list") (by rfl) T.b_list (by decide +kernel) rfl) (pa_cons (pe_bltn (v := .ty "tuple") (u := .type "tuple") (by rfl) T.b_tuple (by decide +kernel) rfl) pa_nil))) pa_nil))))) (pss_one (ps_ret (pv 1))) pss_nil) pss_no1), ?_⟩
    have isr : Ev (tCB (rIsiT K) (tCons (tVar 1) (tCons (tTup (tCons (tC (.ty "list")) (tCons (tC (.ty "tuple")) tNil))) tNil))) [some (.ref st), some z, none] H (.bl false) := by
      rcases hz with ⟨x, rfl⟩ | ⟨x, rfl⟩
      · exact ev_isSeqN (ev_var rfl)
      · exact ev_isSeqNI (ev_var rfl)
    exact q_when (b := true) (et_is (et_not (et_B isr)) rfl) (fun _ H1 e1 => s_ret (ev_var rfl) fun H2 e2 => k H2 (Ex.trans e1 e2)) (fun z => nomatch z)
/-- a row of texts and numbers, handed as a list or a tuple -/
def spDeep1 : Sp := fun vs H Q _ => ∃ (st c a : Addr) (ws : List V), vs = [.ref st, .ref a] ∧ StAt H st c ∧ SeqAt H a ws ∧ ws.length ≤ 1000 ∧ (∀ x ∈ ws, SI x) ∧ ∀ p H', H p = none → StAt H' st c → Kp st H H' → SeqAt H' p ws → Q (.ref p) H'
theorem ok_deep1 {fD fH : Addr} {fdD fdH : FuncData} (F : L2.Fun K "_law_deep" "_law_deep" s_deep f fd) (T : Blt mg) (D_deep : DefOk P w K mg base 1 "_law_deep" fD fdD ["_law_state", "_law_x"] spDeep0) (D_handed : DefOk P w K mg base 3 "_law_handed" fH fdH ["_law_state", "_law_things"] spHanded) :
    FnOk P w K mg base CX0 4 f fd ["_law_state", "_law_x"] spDeep1 := by
  refine F.ok sc_deep (fun vs H Q E h => ?_) (fun cdv A outer s H vs Q E hr h => ?_)
  · obtain ⟨st, c, a, ws, rfl, _⟩ := h
    rfl
  · obtain ⟨st, c, a, ws, rfl, S, ha, hl, hsi, k⟩ := h
    refine ⟨_, (pss_cons (ps_if (pt_not (pt_val (pe_callB call_isiT (by rfl) T.b_isinstance (by decide +kernel) (pa_cons (pv 1) (pa_cons (pe_tup (pa_cons (pe_bltn (v := .ty "list") (u := .type "list") (by rfl) T.b_list (by decide +kernel) rfl) (pa_cons (pe_bltn (v := .ty "tuple") (u := .type "tuple") (by rfl) T.b_tuple (by decide +kernel) rfl) pa_nil))) pa_nil))))) (pss_one (ps_ret (pv 1))) pss_nil)
        (pss_one (ps_ret (pe_d D_handed (hr.mono (by decide)) (by exact (pa_cons (pv 0) (pa_cons (pe_lc (own := [("_law_part", 2)]) (g := gName 2) (tt := tYes)/- '_law_deep' -/ rfl sc_deep.nd (pi_or (pi_list (pv 1)) (pi_tup (pv 1))) (blkOk_by (own := [("_law_part", 2)]) (by kernel_rfl)) (fun _ _ _ _ _ => (pg_name (i := 2) sc_deep.nd rfl (by first | exact Or.inl rfl | exact Or.inr rfl))) (fun _ _ _ _ _ => pts_nil) (fun _ _ _ _ _ => by exact (pe_d D_deep (hr.mono (by decide)) (pa_cons (pv 0) (pa_cons (pv 2) pa_nil))))) pa_nil))))))), ?_⟩
    have isr : Ev (tCB (rIsiT K) (tCons (tVar 1) (tCons (tTup (tCons (tC (.ty "list")) (tCons (tC (.ty "tuple")) tNil))) tNil))) [some (.ref st), some (.ref a), none] H (.bl true) := ev_isSeqY (ev_var rfl) ha
    refine q_when (b := false) (et_is (et_not (et_B isr)) rfl) (fun z => nomatch z) fun _ H1 e1 => ?_
    have mp := el_mapS (K := K) (σ := [some (.ref st), some (.ref a), none]) (H := H1) (te := tCall spDeep0 [] E0 (tCons (tVar 0) (tCons (tVar 2) tNil))) (tl := tVar 1) (l := ws) (f := id) (g := id) (j := 2) (ev_var rfl) (by rw [List.map_id]; exact seq_same ha e1) (by omega) fun x hx H2 e2 H3 e3 Q q => ⟨_, rfl, _, rfl, st, x, rfl, hsi x hx, fun H' e => q H' e⟩
    rw [List.map_id] at mp
    refine ⟨_, rfl, mp H1 (Ex.refl _) _ fun p H2 np e2 hp => ?_⟩
    have e02 := Same.trans e1 e2
    have S2 := S.same e02
    obtain ⟨ys, hys⟩ := S.neL
    have hps : p ≠ st := fun z => by rw [z, e1 _ _ hys] at np; cases np
    exact ⟨st, c, p, ws, rfl, S2, hps, hp, fun t H' nt S' k' hq => k t H' (kp_back S2 (Kp.of e02) (fresh_back (Ex.refl _) nt)) S' ((Kp.of e02).trans k') hq⟩
/-- a list of deeds, handed as a list or a tuple of such -/
def spDeep2 : Sp := fun vs H Q _ => ∃ (st c a : Addr) (xs : List V) (ds : List Deed), vs = [.ref st, .ref a] ∧ StAt H st c ∧ a ≠ st ∧ H a = some (.lst xs) ∧ DeedsT H xs ds ∧ ds.length ≤ 900 ∧ (∀ d ∈ ds, d.2.length ≤ 900) ∧
  ∀ (p : Addr) (vs : List V) (H' : Hp), H p = none → StAt H' st c → Kp st H H' → SeqAt H' p vs → DeedsAt H' vs ds → Q (.ref p) H'
theorem ok_deep2 {fD fH : Addr} {fdD fdH : FuncData} (F : L2.Fun K "_law_deep" "_law_deep" s_deep f fd) (T : Blt mg) (D_deep : DefOk P w K mg base 4 "_law_deep" fD fdD ["_law_state", "_law_x"] spDeep1) (D_handed : DefOk P w K mg base 3 "_law_handed" fH fdH ["_law_state", "_law_things"] spHanded) :
    FnOk P w K mg base CX0 5 f fd ["_law_state", "_law_x"] spDeep2 := by
  refine F.ok sc_deep (fun vs H Q E h => ?_) (fun cdv A outer s H vs Q E hr h => ?_)
  · obtain ⟨st, c, a, xs, ds, rfl, _⟩ := h
    rfl
  · obtain ⟨st, c, a, xs, ds, rfl, S, has, ha, hR, hl, hr2, k⟩ := h
    refine ⟨_, (pss_cons (ps_if (pt_not (pt_val (pe_callB call_isiT (by rfl) T.b_isinstance (by decide +kernel) (pa_cons (pv 1) (pa_cons (pe_tup (pa_cons (pe_bltn (v := .ty "list") (u := .type "list") (by rfl) T.b_list (by decide +kernel) rfl) (pa_cons (pe_bltn (v := .ty "tuple") (u := .type "tuple") (by rfl) T.b_tuple (by decide +kernel) rfl) pa_nil))) pa_nil))))) (pss_one (ps_ret (pv 1))) pss_nil)
        (pss_one (ps_ret (pe_d D_handed (hr.mono (by decide)) (by exact (pa_cons (pv 0) (pa_cons (pe_lc (own := [("_law_part", 2)]) (g := gName 2) (tt := tYes)/- '_law_deep' -/ rfl sc_deep.nd (pi_or (pi_list (pv 1)) (pi_tup (pv 1))) (blkOk_by (own := [("_law_part", 2)]) (by kernel_rfl)) (fun _ _ _ _ _ => (pg_name (i := 2) sc_deep.nd rfl (by first | exact Or.inl rfl | exact Or.inr rfl))) (fun _ _ _ _ _ => pts_nil) (fun _ _ _ _ _ => by exact (pe_d D_deep (hr.mono (by decide)) (pa_cons (pv 0) (pa_cons (pv 2) pa_nil))))) pa_nil))))))), ?_⟩
    have isr : Ev (tCB (rIsiT K) (tCons (tVar 1) (tCons (tTup (tCons (tC (.ty "list")) (tCons (tC (.ty "tuple")) tNil))) tNil))) [some (.ref st), some (.ref a), none] H (.bl true) := ev_isSeqY (ev_var rfl) (.inl ha)
    refine q_when (b := false) (et_is (et_not (et_B isr)) rfl) (fun z => nomatch z) fun _ H1 e1 => ?_
    have S1 := S.same e1
    have ha1 := e1 _ _ ha
    have hR1 := hR.same e1
    obtain ⟨ys, hys⟩ := S1.neL
    have lx : xs.length = ds.length := hR.1
    refine ⟨_, rfl, .inl ⟨_, rfl, a, rfl, ⟨_, SqL.of ha1⟩, fun D nD => ?_⟩⟩
    have hDs : D ≠ st := (S1.of_new nD).1
    refine lc_drawL (K := K) (σ := [some (.ref st), some (.ref a), none]) (fun i v H' => ∃ p z, v = .ref p ∧ ds[i]? = some z ∧ SeqAt H' p (.str z.1 :: intsV z.2) ∧ H p = none ∧ p ≠ D ∧ p ≠ st) S1 nD has ha1 (by omega) (fun i v Ha Hb h e => ?_) (fun i x H' hx S' e' hacc Q' q' => ?_) fun vs H' hlv hv S' e' hD => ?_
    · obtain ⟨p, z, h1, h2, h3, h4, h5, h6⟩ := h
      exact ⟨p, z, h1, h2, h3.elim (fun h => .inl (e.lst h6 h5 h)) (fun h => .inr (e _ _ h (by intro _ xs z; cases z))), h4, h5, h6⟩
    · have hi := (List.getElem?_eq_some_iff.mp hx).1
      have hz : ds[i]? = some (ds[i]'(by omega)) := List.getElem?_eq_getElem _
      generalize ds[i]'(by omega) = z at hz
      obtain ⟨u, hu, hut⟩ := hR1.2 i x z hx hz
      cases hu
      have hus : u ≠ st := ne_of hut hys (by intro z; cases z)
      obtain ⟨acc, hacc⟩ := hacc
      obtain ⟨ws, hws⟩ := S'.neL
      refine ⟨_, rfl, _, rfl, st, c, u, _, rfl, S', .inr (e' _ _ hus hut), by have := hr2 z (List.mem_of_getElem? hz); simp [intsV]; omega, deed_si, fun p H2 np S2 k2 hp => ?_⟩
      have npD : p ≠ D := fun q => by rw [q, hacc] at np; cases np
      have nps : p ≠ st := fun q => by rw [q, hws] at np; cases np
      exact q' _ H2 ⟨p, z, rfl, hz, hp, kp_back S1 (Kp.of e1) (kp_back S' e' np), npD, nps⟩ S2 k2
    · have k1 : Kp st H H' := (Kp.of e1).trans e'
      exact ⟨st, c, D, vs, rfl, S', hDs, hD, fun t H2 nt S2 k2 hq => k t vs H2 (kp_back S' k1 nt) S2 (k1.trans k2) hq ⟨by omega, fun i v d a b => by
        obtain ⟨p, z, h1, h2, h3, h4, h5, h6⟩ := hv i v a
        rw [b] at h2
        cases h2
        exact ⟨p, h1, h3.elim (fun h => .inl (k2 _ _ h6 h)) (fun h => .inr (k2 _ _ h6 h))⟩⟩⟩
/-! ### deeds that are drawn -/
structure DrawOk (d : Deed) : Prop where
  ok : DeedOk d
  b : ∀ n ∈ d.2, n ≤ 1000000
def dSh (d : Deed) : Sh := .t ((V.str d.1 :: intsV d.2).map .v)
theorem dSh_inv {H : Hp} {B : Addr → Prop} {k : Nat} {v : V} {d : Deed} (h : RepB H B (k + 2) v (dSh d)) : ∃ p : Addr, v = .ref p ∧ H p = some (.tup (.str d.1 :: intsV d.2)) := by
  obtain ⟨a, xs, h1, _, h2, h3, _, h5⟩ := h
  refine ⟨a, h1, ?_⟩
  have : xs = V.str d.1 :: intsV d.2 := by
    refine List.ext_getElem? fun i => ?_
    cases e : xs[i]? with
    | none =>
      have := List.getElem?_eq_none_iff.mp e
      rw [List.length_map] at h3
      rw [List.getElem?_eq_none (by omega)]
    | some x =>
      have hi := (List.getElem?_eq_some_iff.mp e).1
      rw [List.length_map] at h3
      have hj : (V.str d.1 :: intsV d.2)[i]? = some ((V.str d.1 :: intsV d.2)[i]'(by omega)) := List.getElem?_eq_getElem _
      generalize (V.str d.1 :: intsV d.2)[i]'(by omega) = y at hj
      have := h5 i x (.v y) e (by rw [List.getElem?_map, hj]; rfl)
      rw [hj, this.1]
  rw [h2, this]
theorem deed_flt {d : Deed} : ∀ x ∈ (V.str d.1 :: intsV d.2), flt x := fun x hx => by
  rcases List.mem_cons.mp hx with e | hx
  · exact .inr (.inr (.inl ⟨_, e⟩))
  · obtain ⟨n, _, e⟩ := List.mem_map.mp hx
    exact .inl ⟨_, e.symm⟩
theorem drawn_of {n m : Nat} (hn : n < 3) (hm : m ≤ 1000000) {s : Sh} (hs : s ∈ [dSh ("read", [n, m]), dSh ("jump", [n, m]), dSh ("anew", [n]), dSh ("give", [n]), dSh ("take", [n])]) : ∃ dd, DrawOk dd ∧ s = dSh dd := by
  have k1 : ("read" : Str) ∈ kindsS := by decide +kernel
  have k2 : ("jump" : Str) ∈ kindsS := by decide +kernel
  have k3 : ("anew" : Str) ∈ kindsS := by decide +kernel
  have k4 : ("give" : Str) ∈ kindsS := by decide +kernel
  have k5 : ("take" : Str) ∈ kindsS := by decide +kernel
  have c1 : cntOf "read" = 2 := by decide +kernel
  have c2 : cntOf "jump" = 2 := by decide +kernel
  have c3 : cntOf "anew" = 1 := by decide +kernel
  have c4 : cntOf "give" = 1 := by decide +kernel
  have c5 : cntOf "take" = 1 := by decide +kernel
  have hb2 : ∀ x ∈ [n, m], x ≤ 1000000 := fun x hx => by
    simp only [List.mem_cons, List.not_mem_nil, or_false] at hx
    omega
  have hb1 : ∀ x ∈ [n], x ≤ 1000000 := fun x hx => by
    rw [List.mem_singleton.mp hx]; omega
  simp only [List.mem_cons, List.not_mem_nil, or_false] at hs
  rcases hs with h | h | h | h | h
  · exact ⟨("read", [n, m]), ⟨⟨k1, c1.symm, hn⟩, hb2⟩, h⟩
  · exact ⟨("jump", [n, m]), ⟨⟨k2, c2.symm, hn⟩, hb2⟩, h⟩
  · exact ⟨("anew", [n]), ⟨⟨k3, c3.symm, hn⟩, hb1⟩, h⟩
  · exact ⟨("give", [n]), ⟨⟨k4, c4.symm, hn⟩, hb1⟩, h⟩
  · exact ⟨("take", [n]), ⟨⟨k5, c5.symm, hn⟩, hb1⟩, h⟩
def spDeeds : Sp := fun vs H Q _ => ∃ (st c : Addr), vs = [.ref st] ∧ StAt H st c ∧ ∀ p xs ds H', H p = none → StAt H' st c → Kp st H H' → H' p = some (.lst xs) → DeedsT H' xs ds → ds.length ≤ 20 → (∀ d ∈ ds, DrawOk d) → Q (.ref p) H'
theorem DeedsT.kps {H H' : Hp} {st c : Addr} {xs : List V} {ds : List Deed} (h : DeedsT H xs ds) (S : StAt H st c) (e : Kp st H H') : DeedsT H' xs ds := by
  obtain ⟨ys, hys⟩ := S.neL
  exact h.kp e hys
abbrev s_deeds : Stmt := top 24
theorem sc_deeds : FnScope ["_law_state", "_law_found", "_law_k", "_law_device", "_law_far", "_law_some"] ["_law_state"] (defScope s_deeds) := ⟨rfl, rfl, rfl, by decide +kernel, rfl, by decide +kernel, by decide +kernel⟩
theorem ok_deeds {fT fO : Addr} {dT dO : FuncData} (F : L2.Fun K "_law_deeds" "_law_deeds" s_deeds f fd) (T : Blt mg) (D_take : DefOk P w K mg base 2 "_law_take" fT dT ["_law_state", "_law_many"] spTake) (D_one : DefOk P w K mg base 3 "_law_one" fO dO ["_law_state", "_law_things"] (spOneA K)) :
    FnOk P w K mg base CX0 4 f fd ["_law_state"] spDeeds := by
  refine F.ok sc_deeds (fun vs H Q E h => ?_) (fun cdv A outer s H vs Q E hr h => ?_)
  · obtain ⟨st, c, rfl, _⟩ := h
    rfl
  · obtain ⟨st, c, rfl, S, k⟩ := h
    refine ⟨_, (pss_cons (ps_set (i := 1) sc_deeds.nd rfl (by first | exact Or.inl rfl | exact Or.inr rfl) (pe_lst pa_nil))
        (pss_cons (ps_for PassesOwn.never rfl (pi_range1 rfl T.b_range (pa_cons (pe_d D_take (hr.mono (by decide)) (pa_cons (pv 0) (pa_cons pe_int pa_nil))) pa_nil)) (pg_name (i := 2) sc_deeds.nd rfl (by first | exact Or.inl rfl | exact Or.inr rfl)) (pss_cons (ps_set (i := 3) sc_deeds.nd rfl (by first | exact Or.inl rfl | exact Or.inr rfl) (pe_d D_take (hr.mono (by decide)) (pa_cons (pv 0) (pa_cons pe_int pa_nil))))
        (pss_cons (ps_set (i := 4) sc_deeds.nd rfl (by first | exact Or.inl rfl | exact Or.inr rfl) (pe_d D_one (hr.mono (by decide)) (pa_cons (pv 0) (pa_cons (pe_tup (pa_cons pe_int (pa_cons pe_int (pa_cons pe_int (pa_cons pe_int (pa_cons pe_int (pa_cons (pe_op op_pow pe_int pe_int) (pa_cons (pe_d D_take (hr.mono (by decide)) (pa_cons (pv 0) (pa_cons pe_int pa_nil))) pa_nil)))))))) pa_nil))))
        (pss_cons (ps_set (i := 5) sc_deeds.nd rfl (by first | exact Or.inl rfl | exact Or.inr rfl) (pe_lst (pa_cons (pe_tup (pa_cons pe_str (pa_cons (pv 3) (pa_cons (pv 4) pa_nil)))) (pa_cons (pe_tup (pa_cons pe_str (pa_cons (pv 3) (pa_cons (pv 4) pa_nil)))) (pa_cons (pe_tup (pa_cons pe_str (pa_cons (pv 3) pa_nil))) (pa_cons (pe_tup (pa_cons pe_str (pa_cons (pv 3) pa_nil))) (pa_cons (pe_tup (pa_cons pe_str (pa_cons (pv 3) pa_nil))) pa_nil)))))))
        (pss_one (ps_expr (pe_bm PySem.F.plainAttrs_list PySem.F.slot_list_append PySem.F.type_list_append mt_append (pv 1) (pa_cons (pe_d D_one (hr.mono (by decide)) (pa_cons (pv 0) (pa_cons (pv 5) pa_nil))) pa_nil))))))))
        (pss_one (ps_ret (pv 1))))), ?_⟩
    refine q_asgL (el_lst ea_nil (by decide)) fun fl H1 nfl e1 hfl => ?_
    have S1 := S.same e1
    have hfs : fl ≠ st := (S.of_new nfl).1
    have hfc : fl ≠ c := (S.of_new nfl).2
    dsimp only [L2.start, List.set]
    refine ⟨_, rfl, st, c, 21, rfl, S1, by decide, by decide, fun d H2 d0 d21 S2 k2 => ⟨_, rfl, by omega, by omega, for_range (lo := 0) (n := d.toNat) (fun i σ' H' => ∃ u2 u3 u4 u5 : Option V, σ' = [some (.ref st), some (.ref fl), u2, u3, u4, u5] ∧ StAt H' st c ∧ Kp st H H' ∧ ∃ xs ds, H' fl = some (.lst xs) ∧ DeedsT H' xs ds ∧ ds.length = i ∧ ∀ d ∈ ds, DrawOk d) ⟨_, _, _, _, rfl, S2, (Kp.of e1).trans k2, [], [], k2 _ _ hfs hfl, ⟨rfl, fun i v d a b => by simp at a⟩, rfl, fun d hd => nomatch hd⟩ ?_ ?_⟩⟩
    · rintro i σ' H3 hi ⟨u2, u3, u4, u5, rfl, S3, k3, xs, ds, hx3, hD3, hl3, hok3⟩
      dsimp only [gName, List.set]
      refine ⟨_, rfl, st, c, 3, rfl, S3, by decide, by decide, fun dv H4 dv0 dv3 S4 k4 => ?_⟩
      dsimp only [gName, List.set]
      obtain ⟨n, rfl⟩ := Int.eq_ofNat_of_zero_le dv0
      refine ⟨_, rfl, _, _, rfl, rfl, ⟨by decide, by decide, by decide⟩, _, rfl, st, c, 1000, rfl, S4, by decide, by decide, fun fv H5 fv0 fv1 S5 k5 => ⟨by show 7 ≤ sizeLine; decide, fun tp ntp => ?_⟩⟩
      have e6 := Ex.new ntp (o := .tup [.int 0, .int 1, .int 9, .int 10, .int 100, .int ((10 : Int) ^ (6 : Int).toNat), .int fv])
      refine ⟨st, c, tp, _, rfl, S5.same e6, (S5.of_new ntp).1, .inr (SqT.of upd_same), by show 0 < 7; decide, by show 7 < 1073741824; decide, fun far H6 hfar S6 k6 => ?_⟩
      have k36 : Kp st H3 H6 := (k4.trans k5).trans ((Kp.of e6).trans k6)
      obtain ⟨m, rfl, hm⟩ : ∃ m : Nat, far = .int (m : Int) ∧ m ≤ 1000000 := by
        have e10 : ((10 : Int) ^ (6 : Int).toNat) = ((1000000 : Nat) : Int) := by decide
        obtain ⟨z, rfl⟩ := Int.eq_ofNat_of_zero_le fv0
        simp only [List.mem_cons, List.not_mem_nil, or_false, e10] at hfar
        rcases hfar with h | h | h | h | h | h | h
        · exact ⟨0, h, by decide⟩
        · exact ⟨1, h, by decide⟩
        · exact ⟨9, h, by decide⟩
        · exact ⟨10, h, by decide⟩
        · exact ⟨100, h, by decide⟩
        · exact ⟨1000000, h, by decide⟩
        · exact ⟨z, h, by omega⟩
      dsimp only [gName, List.set]
      have el : EvS (tLst (tCons (tTup (tCons (tC (.str "read")) (tCons (tVar 3) (tCons (tVar 4) tNil)))) (tCons (tTup (tCons (tC (.str "jump")) (tCons (tVar 3) (tCons (tVar 4) tNil)))) (tCons (tTup (tCons (tC (.str "anew")) (tCons (tVar 3) tNil))) (tCons (tTup (tCons (tC (.str "give")) (tCons (tVar 3) tNil))) (tCons (tTup (tCons (tC (.str "take")) (tCons (tVar 3) tNil))) tNil))))))
          [some (.ref st), some (.ref fl), some (.int (0 + (i : Int))), some (.int (n : Int)), some (.int (m : Int)), u5] H6 3 (.l [dSh ("read", [n, m]), dSh ("jump", [n, m]), dSh ("anew", [n]), dSh ("give", [n]), dSh ("take", [n])]) :=
        es_lst (es_cons (es_tup (es_cons (es_s ev_c) (es_cons (es_i (ev_var rfl)) (es_cons (es_i (ev_var rfl)) es_nil))) (by show 3 ≤ 40000; decide))
          (es_cons (es_tup (es_cons (es_s ev_c) (es_cons (es_i (ev_var rfl)) (es_cons (es_i (ev_var rfl)) es_nil))) (by show 3 ≤ 40000; decide))
          (es_cons (es_tup (es_cons (es_s ev_c) (es_cons (es_i (ev_var rfl)) es_nil)) (by show 2 ≤ 40000; decide))
          (es_cons (es_tup (es_cons (es_s ev_c) (es_cons (es_i (ev_var rfl)) es_nil)) (by show 2 ≤ 40000; decide))
          (es_cons (es_tup (es_cons (es_s ev_c) (es_cons (es_i (ev_var rfl)) es_nil)) (by show 2 ≤ 40000; decide)) es_nil))))) (by show 5 ≤ 40000; decide)
      refine q_asgS el fun sv H7 e7 r7 => ?_
      obtain ⟨sa, sx, rfl, _, hsa, hsl, _, hsx⟩ := r7
      dsimp only [gName, List.set]
      have hsl5 : sx.length = 5 := hsl
      have S7 := S6.same e7
      have k37 := k36.trans (Kp.of e7)
      have hall : ∀ v ∈ sx, ∃ dd, DrawOk dd ∧ ∃ p : Addr, v = .ref p ∧ H7 p = some (.tup (.str dd.1 :: intsV dd.2)) := fun v hv => by
        obtain ⟨j, hj⟩ := List.mem_iff_getElem?.mp hv
        have hjl := (List.getElem?_eq_some_iff.mp hj).1
        rw [hsl] at hjl
        have hs := List.getElem?_eq_getElem hjl
        have hr := hsx j v _ hj hs
        have hm2 := List.mem_of_getElem? hs
        generalize [dSh ("read", [n, m]), dSh ("jump", [n, m]), dSh ("anew", [n]), dSh ("give", [n]), dSh ("take", [n])][j] = sj at hr hm2
        obtain ⟨dd, hd1, rfl⟩ := drawn_of (by omega) hm hm2
        exact ⟨dd, hd1, dSh_inv hr⟩
      have hsn : sa ≠ st := fun z => by
        obtain ⟨n1, l1, b1, ho⟩ := S7.ob
        rw [z, ho] at hsa
        have := HO.lst.inj (Option.some.inj hsa)
        rw [← this] at hsl5
        simp at hsl5
      have hx7 := k37 _ _ hfs hx3
      have hD7 := hD3.kps S3 k37
      refine ⟨_, rfl, .inl ⟨rfl, _, SqL.of hx7⟩, _, rfl, _, rfl, st, c, sa, sx, rfl, S7, hsn, .inl (SqL.of hsa), by omega, by omega, fun v H8 hv S8 k8 => ?_⟩
      obtain ⟨dd, hd1, p, rfl, hp⟩ := hall v hv
      obtain ⟨ys, hys⟩ := S7.neL
      have hp8 := k8 _ _ (ne_of hp hys (by intro z; cases z)) hp
      have hx8 := k8 _ _ hfs hx7
      have hD8 := hD7.kps S7 k8
      have k38 := k37.trans k8
      refine ⟨fl, _, _, rfl, rfl, hx8, sz_lt (by rw [hD8.1]; omega), _, _, _, _, rfl, S8.mut hfs hfc, Kp.mut (k3.trans k38) nfl, xs ++ [.ref p], ds ++ [dd], upd_same, ?_, by simp [hl3], fun d hd => ?_⟩
      · exact DeedsT.kp (hD8.app hp8) (Kp.upd _ _ _) hx8
      · rcases List.mem_append.mp hd with h | h
        · exact hok3 d h
        · rw [List.mem_singleton.mp h]
          exact hd1
    · rintro σ' H3 ⟨u2, u3, u4, u5, rfl, S3, k3, xs, ds, hx3, hD3, hl3, hok3⟩
      exact s_ret (ev_var rfl) fun H4 e4 => k fl xs ds H4 nfl (S3.same e4) (k3.trans (Kp.of e4)) (e4 _ _ hx3) (hD3.same e4) (by omega) hok3
end
end Lm

namespace Lm
open PySem L2 Evl RZ TL
/-! ### the law's own reading of a text -/
theorem canon_iff (x : Str) : canon x = decide (x = dstr (valOf x)) := by
  unfold canon
  by_cases h : x = dstr (valOf x)
  · have : isFig x = true := by rw [h]; exact isFig_dstr _
    rw [this, Bool.true_and]
  · rw [decide_eq_false h, Bool.and_false]
def numV (x : Str) : V := if canon x = true then .int (valOf x : Nat) else .non
theorem numV_no {x : Str} (h : canon x = false) : numV x = .non := by unfold numV; rw [h]; rfl
section
variable {P : Program} {w : World} {K : PySem.W.Frag} {mg : Str → Option Value} {base : Heap} {f : Addr} {fd : FuncData}
def spNumL : Sp := fun vs H Q _ => ∃ x : Str, vs = [.str x] ∧ x.length ≤ 200 ∧ ∀ H', Ex H H' → Q (numV x) H'
abbrev s_number : Stmt := top 25
theorem sc_number : FnScope ["_law_x", "_law_found", "_law_sign"] ["_law_x"] (defScope s_number) := ⟨rfl, rfl, rfl, by decide +kernel, rfl, by decide +kernel, by decide +kernel⟩
theorem ok_number (F : L2.Fun K "_law_number" "_law_number" s_number f fd) (T : Blt mg) : FnOk P w K mg base CX0 1 f fd ["_law_x"] spNumL := by
  refine F.ok sc_number (fun vs H Q E h => ?_) (fun cdv A outer s H vs Q E hr h => ?_)
  · obtain ⟨x, rfl, _⟩ := h
    rfl
  · obtain ⟨x, rfl, hx, k⟩ := h
    refine ⟨_, (pss_cons (ps_set (i := 1) sc_number.nd rfl (by first | exact Or.inl rfl | exact Or.inr rfl) pe_int)
        (pss_cons (ps_for PassesOwn.never rfl (pi_str (pv 0)) (pg_name (i := 2) sc_number.nd rfl (by first | exact Or.inl rfl | exact Or.inr rfl)) (pss_cons (ps_if (pt_cmpR op_notIn_sign (pv 2) pe_str rfl) (pss_one (ps_ret pe_non)) pss_nil)
        (pss_one (ps_set (i := 1) sc_number.nd rfl (by first | exact Or.inl rfl | exact Or.inr rfl) (pe_op op_add (pe_op op_mul (pv 1) pe_int) (pe_callTy call_int_str (by rfl) T.b_int (by decide +kernel) (pa_cons (pv 2) pa_nil)))))))
        (pss_one (ps_ret (pe_ifExp (pt_cmpR op_eq (pv 0) (pe_callTy call_strO (by rfl) T.b_str (by decide +kernel) (pa_cons (pv 1) pa_nil)) (nomark _)) (pv 1) pe_non))))), ?_⟩
    refine q_asg ev_c fun H1 e1 => ?_
    dsimp only [L2.start, List.set]
    have hsz : x.cps.size = (tl x).length := by simp [tl]
    refine ⟨_, rfl, x, rfl, for_it walk_str (fun i σ' H' => ∃ u2 : Option V, σ' = [some (.str x), some (.int (NumText.digitsVal ((tl x).take i) : Nat)), u2] ∧ Ex H H' ∧ NumText.AllDigits ((tl x).take i)) ⟨_, rfl, e1, fun c hc => by simp at hc⟩ (fun _ _ _ _ _ => True.intro) ?_ ?_⟩
    · rintro i v σ' H2 H3 hi ⟨u2, rfl, e2, hd⟩ ⟨rfl, c, hc, rfl⟩
      dsimp only [gName, List.set]
      have hc' : (tl x)[i]? = some c := by simpa [tl] using hc
      refine q_when (b := !decide (c ∈ ("0123456789" : Str).cps.toList)) (et_test (fun H6 e6 Q q => ⟨_, rfl, c, _, rfl, rfl, q H6 (Ex.refl _)⟩)) (fun hb H4 e4 => ?_) (fun hb H4 e4 => ?_)
      · rw [digs] at hb
        have hn : ¬ (48 ≤ c ∧ c ≤ 57) := fun z => by rw [decide_eq_true z] at hb; cases hb
        refine s_ret ev_c fun H5 e5 => ?_
        have := k H5 (Ex.trans e2 (Ex.trans e4 e5))
        rw [numV_no] at this
        · exact this
        · unfold canon isFig
          have : (tl x).all (fun c => decide (48 ≤ c ∧ c ≤ 57)) = false := by
            rw [List.all_eq_false]
            exact ⟨c, List.mem_of_getElem? hc', fun z => hn (of_decide_eq_true z)⟩
          rw [this, Bool.and_false, Bool.false_and]
      · rw [digs] at hb
        have hn : 48 ≤ c ∧ c ≤ 57 := by simpa using hb
        have ht : (tl x).take (i + 1) = (tl x).take i ++ [c] := by rw [List.take_succ, hc']; rfl
        have hd1 : NumText.AllDigits ((tl x).take (i + 1)) := fun y hy => by
          rw [ht] at hy
          rcases List.mem_append.mp hy with hy | hy
          · exact hd y hy
          · rw [List.mem_singleton.mp hy]; exact hn
        have hi1 : PySem.intText? ⟨#[c]⟩ = some ((NumText.digitsVal [c] : Nat) : Int) := intText_digits (x := ⟨#[c]⟩) (fun y hy => by
          have hy : y ∈ [c] := hy
          rw [List.mem_singleton.mp hy]; exact hn) (by intro z; cases z) (by show 1 ≤ 4300; decide)
        refine ⟨_, rfl, _, _, rfl, rfl, .inr ⟨by decide, by decide⟩, _, rfl, ⟨#[c]⟩, _, rfl, hi1, by show 1 ≤ 640; decide, _, _, rfl, rfl, ?_⟩
        dsimp only [gName, List.set]
        refine ⟨some (.str ⟨#[c]⟩), ?_, Ex.trans e2 e4, hd1⟩
        rw [ht, NumText.digitsVal_snoc]
        have e0 : NumText.digitsVal [c] = c - 48 := by show 0 * 10 + (c - 48) = c - 48; omega
        rw [e0]
        have : ((NumText.digitsVal ((tl x).take i) * 10 + (c - 48) : Nat) : Int) = (NumText.digitsVal ((tl x).take i) : Int) * 10 + ((c - 48 : Nat) : Int) := by simp
        rw [this]
    · rintro σ' H2 ⟨u2, rfl, e2, hd⟩
      rw [hsz, List.take_length] at hd
      rw [hsz, List.take_length]
      have hlt : valOf x < 10 ^ 200 := Nat.lt_of_lt_of_le (valOf_lt hd) (ten_le hx)
      refine ⟨_, rfl, _, rfl, .inl ⟨_, rfl, lg_ok hlt, rfl, _, rfl, ?_⟩⟩
      have e3 : decide (V.str x = V.str (dstr (valOf x))) = canon x := by rw [str_eqD, canon_iff]
      refine ite2 (fun h => ⟨_, rfl, ?_⟩) (fun h => ?_)
      · have h : canon x = true := by rw [← e3]; exact h
        have := k H2 e2
        unfold numV at this
        rw [if_pos h] at this
        exact this
      · have h : canon x = false := by
          cases hc : canon x with
          | false => rfl
          | true => exact absurd (show decide (V.str x = V.str (dstr (valOf x))) = true from e3.trans hc) h
        have := k H2 e2
        rw [numV_no h] at this
        exact this
end
/-! ### a line's deed by the law -/
def kvs5 : List (Key × V) := [(.inr "read", .int 3), (.inr "jump", .int 3), (.inr "anew", .int 2), (.inr "give", .int 2), (.inr "take", .int 2)]
theorem size_of (k : Str) : (valV (mergeK [] kvs5) (Sum.inr k)).getD (.int 0) = .int ((if k ∈ kindsS then 1 + cntOf k else 0 : Nat) : Int) := by
  unfold mergeK kvs5
  simp only [List.foldl_cons, List.foldl_nil, valV_put, valV_nil, Sum.inr.injEq]
  by_cases h5 : k = "take"
  · subst h5; decide +kernel
  by_cases h4 : k = "give"
  · subst h4; decide +kernel
  by_cases h3 : k = "anew"
  · subst h3; decide +kernel
  by_cases h2 : k = "jump"
  · subst h2; decide +kernel
  by_cases h1 : k = "read"
  · subst h1; decide +kernel
  rw [if_neg h5, if_neg h4, if_neg h3, if_neg h2, if_neg h1, if_neg (by unfold kindsS; simp [h1, h2, h3, h4, h5])]
  rfl
theorem in3 (w : Str) : w ∈ (["0", "1", "2"] : List Str) ↔ canon w = true ∧ valOf w < 3 := by
  have d0 : dstr 0 = "0" := by decide +kernel
  have d1 : dstr 1 = "1" := by decide +kernel
  have d2 : dstr 2 = "2" := by decide +kernel
  rw [canon_iff, decide_eq_true_iff]
  constructor
  · intro h
    simp only [List.mem_cons, List.not_mem_nil, or_false] at h
    rcases h with rfl | rfl | rfl
    · rw [← d0, valOf_dstr]; exact ⟨rfl, by decide⟩
    · rw [← d1, valOf_dstr]; exact ⟨rfl, by decide⟩
    · rw [← d2, valOf_dstr]; exact ⟨rfl, by decide⟩
  · rintro ⟨h, h3⟩
    rw [h]
    generalize valOf w = n at h3
    have : n = 0 ∨ n = 1 ∨ n = 2 := by omega
    rcases this with rfl | rfl | rfl
    · rw [d0]; simp
    · rw [d1]; simp
    · rw [d2]; simp
section
variable {K : PySem.W.Frag} {σ : L2.St} {H : Hp} {te : TE}
theorem ev_size {k : Str} (h : Ev te σ H (.str k)) : Ev (tDGet2 (tDisp [(tC (.str "read"), tC (.int 3)), (tC (.str "jump"), tC (.int 3)), (tC (.str "anew"), tC (.int 2)), (tC (.str "give"), tC (.int 2)), (tC (.str "take"), tC (.int 2))]) te (tC (.int 0))) σ H (.int ((if k ∈ kindsS then 1 + cntOf k else 0 : Nat) : Int)) := fun H1 e Q q pd npd => by
  have e1 : Ex H1 (upd (upd H1 pd (.dK [])) pd (.dK (mergeK [] kvs5))) := Ex.mut (Ex.new npd) npd
  refine ⟨upd_same, kvs5, rfl, by decide, pd, rfl, .inl ⟨_, .inl upd_same⟩, h _ (Ex.trans e e1) _ fun H2 e2 => ⟨_, DGet.k (k := Sum.inr k) (e2 _ _ upd_same), ?_⟩⟩
  rw [size_of]
  exact q H2 (Ex.trans e1 e2)
theorem r_if {t : TT} {ta tb : TE} {D : Ends} {b : Bool} (h : EvT t σ H b) (k1 : b = true → ∀ H1, Ex H H1 → ta σ H1 D.rt) (k2 : b = false → ∀ H1, Ex H H1 → tb σ H1 D.rt) : tRet (tIf t ta tb) D σ H := h H (Ex.refl _) _ fun H1 e => by
  cases b with
  | true => exact k1 rfl H1 e
  | false => exact k2 rfl H1 e
theorem eu_tuple {p : Addr} {xs : List V} {ta : TE} (ha : Ev ta σ H (.ref p)) (h : H p = some (.lst xs)) : EvU (tCB (fun xs H Q => ∃ p ys, xs = [V.ref p] ∧ ((SqL K H p ys ∧ ∀ l, H l = none → Q (.ref l) (upd H l (.tup ys))) ∨ (SqT K H p ys ∧ Q (.ref p) H))) (tCons ta tNil)) σ H xs := fun H1 e Q q => ha H1 e _ fun H2 e2 => ⟨p, xs, rfl, .inl ⟨SqL.of (Ex.trans e e2 _ _ h), fun l nl => q l _ (fresh_back e2 nl) (Ex.trans e2 (Ex.new nl)) upd_same⟩⟩
theorem eu_catT {ta tb : TE} {xs ys : List V} (h : EvU ta σ H xs) (k : EvU tb σ H ys) (hx : xs ≠ []) (hy : ys ≠ []) (hl : xs.length + ys.length ≤ 100000) : EvU (tOp (rCatT K) ta tb) σ H (xs ++ ys) := fun H1 e Q q => h H1 e _ fun p H2 np e2 hp => k H2 (Ex.trans e e2) _ fun p' H3 np' e3 hp' => ⟨p, p', xs, ys, rfl, rfl, SqT.of (e3 _ _ hp), SqT.of hp', hx, sz_of hl, (fun z => absurd z hy), fun _ r nr => q r _ (fresh_back (Ex.trans e2 e3) nr) (Ex.trans (Ex.trans e2 e3) (Ex.new nr)) upd_same⟩
theorem numV_flat (fs : List Str) : (fs.map numV).all flatV = true := by
  rw [List.all_eq_true]
  intro v hv
  obtain ⟨x, _, rfl⟩ := List.mem_map.mp hv
  unfold numV
  split <;> rfl
theorem numV_in (fs : List Str) : inV .non (fs.map numV) = fs.any fun x => !canon x := by
  unfold inV
  rw [List.any_map]
  congr 1
  funext x
  show eqV (numV x) .non = _
  unfold numV
  cases canon x <;> rfl
end
section
variable {P : Program} {w : World} {K : PySem.W.Frag} {mg : Str → Option Value} {base : Heap} {f : Addr} {fd : FuncData}
def spDeedL : Sp := fun vs H Q _ => ∃ l : Str, vs = [.str l] ∧ l.length ≤ 100 ∧ (∀ d, deedL l = some d → ∀ p H', H p = none → Ex H H' → H' p = some (.tup (.str d.1 :: intsV d.2)) → Q (.ref p) H') ∧ (deedL l = none → ∀ H', Ex H H' → Q .non H')
abbrev s_deed_of : Stmt := top 26
theorem sc_deed_of : FnScope ["_law_line", "_law_words", "_law_size", "_law_numbers", "_law_x"] ["_law_line"] (defScope s_deed_of) := ⟨rfl, rfl, rfl, by decide +kernel, rfl, by decide +kernel, by decide +kernel⟩
theorem ok_deed_of {fN : Addr} {dN : FuncData} (F : L2.Fun K "_law_deed_of" "_law_deed_of" s_deed_of f fd) (T : Blt mg) (D_number : DefOk P w K mg base 1 "_law_number" fN dN ["_law_x"] spNumL) : FnOk P w K mg base CX0 2 f fd ["_law_line"] spDeedL := by
  refine F.ok sc_deed_of (fun vs H Q E h => ?_) (fun cdv A outer s H vs Q E hr h => ?_)
  · obtain ⟨x, rfl, _⟩ := h
    rfl
  · obtain ⟨l, rfl, hl, kS, kN⟩ := h
    have hu := hu_of hr
    refine ⟨_, (pss_cons (ps_set (i := 1) sc_deed_of.nd rfl (by first | exact Or.inl rfl | exact Or.inr rfl) (pe_split (pv 0) pe_str))
        (pss_cons (ps_set (i := 2) sc_deed_of.nd rfl (by first | exact Or.inl rfl | exact Or.inr rfl) (pe_dget2 hu (pe_disp (pps_cons pe_str pe_int (pps_cons pe_str pe_int (pps_cons pe_str pe_int (pps_cons pe_str pe_int (pps_cons pe_str pe_int pps_nil))))) rfl rfl (fun z => nomatch z) (Nat.le_of_ble_eq_true rfl)) (pe_ix ix_list (pv 1) pe_int (fun _ _ => rfl)) pe_int ⟨rfl, rfl, rfl, rfl⟩))
        (pss_cons (ps_if (PW.pt (pw_or (pt_cmpR op_ne (pe_callB call_len_seq (by rfl) T.b_len PySem.boot_len (pa_cons (pv 1) pa_nil)) (pv 2) (nomark _)) (pw_or1 (pt_cmpR op_notIn_seq (pe_ix ix_list (pv 1) pe_int (fun _ _ => rfl)) (pe_lst (pa_cons pe_str (pa_cons pe_str (pa_cons pe_str pa_nil)))) (by rfl))))) (pss_one (ps_ret pe_non)) pss_nil)
        (pss_cons (ps_setLc (i := 3) (own := [("_law_x", 4)]) (g := gName 4) (tt := tYes) (te := (tCall spNumL [] E0 (tCons (tVar 4) tNil))) rfl sc_deed_of.nd rfl rfl (sw_true rfl rfl rfl (by decide +kernel)) (pi_list (pe_slice sl_list (pv 1) (po_some pe_int) po_none)) (blkOk_by (own := [("_law_x", 4)]) (by kernel_rfl)) (fun _ _ _ _ _ => (pg_name (i := 4) sc_deed_of.nd rfl (by first | exact Or.inl rfl | exact Or.inr rfl))) (fun _ _ _ _ _ => pts_nil) (fun _ _ _ _ _ => by exact (pe_d D_number (hr.mono (by decide)) (pa_cons (pv 4) pa_nil))))
        (pss_one (ps_ret (pe_ifExp (pt_cmpR op_in_seq pe_non (pv 3) (by rfl)) pe_non (pe_op op_catT (pe_tup (pa_cons (pe_ix ix_list (pv 1) pe_int (fun _ _ => rfl)) pa_nil)) (pe_callTy call_tuple_of (by rfl) T.b_tuple (by decide +kernel) (pa_cons (pv 3) pa_nil)))))))))), ?_⟩
    refine ⟨_, rfl, ⟨_, rfl⟩, l, " ", rfl, rfl, rfl, sz_of (by omega), fun p np => ?_⟩
    obtain ⟨k, fs, hw⟩ : ∃ k fs, wordsOf l = k :: fs := by
      cases h : wordsOf l with
      | nil => exact absurd h (words_ne l)
      | cons a b => exact ⟨a, b, rfl⟩
    have hwl := words_len l
    have hwc := words_count l
    have hsp : Txt.split l " " = k :: fs := hw
    rw [hw] at hwl hwc
    rw [hsp]
    dsimp only [gName, L2.start, List.set]
    have e1 := Ex.new np (o := .lst ((k :: fs).map V.str))
    have hp : (upd H p (.lst ((k :: fs).map V.str))) p = some (.lst ((k :: fs).map V.str)) := upd_same
    generalize upd H p (.lst ((k :: fs).map V.str)) = H1 at e1 hp
    have hD : deedL l = if k ∈ kindsS ∧ fs.length = cntOf k ∧ fs.all canon = true ∧ (fs.map valOf).headD 3 < 3 then some (k, fs.map valOf) else none := by
      unfold deedL
      rw [hw]
      rfl
    have noD : (¬ (k ∈ kindsS ∧ fs.length = cntOf k ∧ fs.all canon = true ∧ (fs.map valOf).headD 3 < 3)) → deedL l = none := fun h => by rw [hD, if_neg h]
    have ix : ∀ {σ : L2.St} {H' : Hp} {n : Nat} {x : Str}, σ[1]? = some (some (.ref p)) → Ex H1 H' → (k :: fs)[n]? = some x → Ev (tOp (rIxL K) (tVar 1) (tC (.int (n : Nat)))) σ H' (.str x) := fun h1 e hx => ev_op (ev_var h1) ev_c (rv_ixL (SqL.of (e _ _ hp)) (atI_nat (by rw [List.getElem?_map, hx]; rfl)))
    refine q_asg (ev_size (ix (n := 0) rfl (Ex.refl _) rfl)) fun H2 e2 => ?_
    have hp2 := e2 _ _ hp
    have hsz : (((k :: fs).map V.str).length : Int) = ((1 + fs.length : Nat) : Int) := by rw [List.length_map, List.length_cons]; omega
    have keyc : decide (V.int ((((k :: fs).map V.str).length : Nat) : Int) = V.int ((if k ∈ kindsS then 1 + cntOf k else 0 : Nat) : Int)) = true → k ∈ kindsS ∧ fs.length = cntOf k := fun h => by
      have h := V.int.inj (of_decide_eq_true h)
      rw [hsz] at h
      by_cases hk : k ∈ kindsS
      · rw [if_pos hk] at h
        exact ⟨hk, by omega⟩
      · rw [if_neg hk] at h
        omega
    have e02 := Ex.trans e1 e2
    have et1 := et_test (ev_op (σ := [some (.str l), some (.ref p), some (.int ((if k ∈ kindsS then 1 + cntOf k else 0 : Nat) : Int)), none, none]) (ev_lenL (K := K) (ev_var (i := 1) rfl) hp2) (ev_var (i := 2) (v := .int ((if k ∈ kindsS then 1 + cntOf k else 0 : Nat) : Int)) rfl) (rv_ne rfl))
    have et2 : ∀ x0 fr, fs = x0 :: fr → EvT (tTest (tOp (rIn K true) (tOp (rIxL K) (tVar 1) (tC (.int 1))) (tLst (tCons (tC (.str "0")) (tCons (tC (.str "1")) (tCons (tC (.str "2")) tNil)))))) [some (.str l), some (.ref p), some (.int ((if k ∈ kindsS then 1 + cntOf k else 0 : Nat) : Int)), none, none] H2 (!decide (x0 ∈ (["0", "1", "2"] : List Str))) := fun x0 fr hfs => by
      refine et_test (ev_opL (xs := (["0", "1", "2"] : List Str).map V.str) (ix (n := 1) (x := x0) rfl e2 (by rw [hfs]; rfl)) (el_lst (ea_cons ev_c (ea_cons ev_c (ea_cons ev_c ea_nil))) (by show 3 ≤ 100000; decide)) fun q H3 hq e3 => fun H4 e4 Q q' => ⟨q, _, rfl, .inl (SqL.of (e4 _ _ hq)), rfl, strs_flat1 _, ?_⟩)
      rw [strs_in1]
      exact q' H4 (Ex.refl _)
    have cnt1 : 1 ≤ cntOf k := by unfold cntOf; split <;> decide
    have hne : ∀ b, (!decide (V.int ((((k :: fs).map V.str).length : Nat) : Int) = V.int ((if k ∈ kindsS then 1 + cntOf k else 0 : Nat) : Int))) = b → b = false → ∃ x0 fr, fs = x0 :: fr := fun b hb h0 => by
      rw [h0] at hb
      obtain ⟨h1, h2⟩ := keyc (by simpa using hb)
      cases h : fs with
      | nil => rw [h] at h2; simp at h2; omega
      | cons a b => exact ⟨a, b, rfl⟩
    by_cases hc : k ∈ kindsS ∧ fs.length = cntOf k
    · obtain ⟨x0, fr, hfs⟩ : ∃ x0 fr, fs = x0 :: fr := by
        cases h : fs with
        | nil => rw [h] at hc; have := hc.2; simp at this; omega
        | cons a b => exact ⟨a, b, rfl⟩
      have hf : (!decide (V.int ((((k :: fs).map V.str).length : Nat) : Int) = V.int ((if k ∈ kindsS then 1 + cntOf k else 0 : Nat) : Int))) = false := by
        rw [hsz, if_pos hc.1, hc.2]
        simp
      refine q_when (et_or et1 fun _ => et2 x0 fr hfs) (fun hb H3 e3 => ?_) (fun hb H3 e3 => ?_)
      · refine s_ret ev_c fun H4 e4 => kN (noD fun z => ?_) H4 (Ex.trans e02 (Ex.trans e3 e4))
        rw [hf, Bool.false_or] at hb
        refine (show ¬ x0 ∈ (["0", "1", "2"] : List Str) from fun h => by rw [decide_eq_true h] at hb; cases hb) ((in3 x0).mpr ⟨List.all_eq_true.mp z.2.2.1 x0 (by rw [hfs]; simp), ?_⟩)
        have := z.2.2.2
        rw [hfs] at this
        exact this
      · have hx0 : x0 ∈ (["0", "1", "2"] : List Str) := by
          rw [hf, Bool.false_or] at hb
          exact Decidable.byContradiction fun h => by rw [decide_eq_false h] at hb; cases hb
        obtain ⟨hx1, hx3⟩ := (in3 x0).mp hx0
        have lc : fs.length ≤ 2 := by rw [hc.2]; unfold cntOf; split <;> omega
        have hf100 : ∀ x ∈ fs, x.length ≤ 100 := fun x hx => by have := hwl x (by simp [hx]); omega
        have hp3 := e3 _ _ hp2
        have elN := el_mapN (K := K) (σ := [some (.str l), some (.ref p), some (.int ((if k ∈ kindsS then 1 + cntOf k else 0 : Nat) : Int)), none, none]) (H := H3) (te := tCall spNumL [] E0 (tCons (tVar 4) tNil)) (tl := tSl (rSlL K) (tVar 1) (tPart (tC (.int 1))) tNoPart) (l := fs) (f := V.str) (g := numV) (j := 4) (by
            have := el_sl (K := K) (te := tVar 1) (σ := [some (.str l), some (.ref p), some (.int ((if k ∈ kindsS then 1 + cntOf k else 0 : Nat) : Int)), none, none]) (ev_var rfl) (eo_some (ev_c (v := .int ((1 : Nat) : Int)))) eo_none (SqL.of hp3)
            rw [cutV_from] at this
            exact this) (by omega) fun x hx H4 e4 H5 e5 Q q => ⟨_, rfl, x, rfl, by have := hf100 x hx; omega, fun H6 e6 => q H6 e6⟩
        refine q_asgL elN fun D H4 nD e4 hDl => ?_
        refine r_if (b := fs.any fun x => !canon x) (et_test (ev_op ev_c (ev_var rfl) fun H5 e5 Q q => ⟨D, _, rfl, .inl (SqL.of (e5 _ _ hDl)), rfl, numV_flat _, by show Q (.bl (inV .non (fs.map numV))) H5; rw [numV_in]; exact q H5 (Ex.refl _)⟩)) (fun hb H5 e5 => ?_) (fun hb H5 e5 => ?_)
        · refine kN (noD fun z => ?_) H5 (Ex.trans e02 (Ex.trans e3 (Ex.trans e4 e5)))
          obtain ⟨x, hx, hx2⟩ := List.any_eq_true.mp hb
          rw [List.all_eq_true.mp z.2.2.1 x hx] at hx2
          cases hx2
        · have hall : ∀ x ∈ fs, canon x = true := fun x hx => by
            cases h : canon x with
            | true => rfl
            | false => exact absurd (show (fs.any fun x => !canon x) = true from List.any_eq_true.mpr ⟨x, hx, by rw [h]; rfl⟩) (by rw [hb]; simp)
          have hnum : fs.map numV = intsV (fs.map valOf) := by
            unfold intsV
            rw [List.map_map]
            refine List.map_congr_left fun x hx => ?_
            show numV x = V.int _
            unfold numV
            rw [if_pos (hall x hx)]
          have hD5 := e5 _ _ hDl
          rw [hnum] at hD5
          have e25 := Ex.trans e2 (Ex.trans e3 (Ex.trans e4 e5))
          have eu := eu_catT (K := K) (σ := [some (.str l), some (.ref p), some (.int ((if k ∈ kindsS then 1 + cntOf k else 0 : Nat) : Int)), some (.ref D), none]) (H := H5) (eu_tup (ea_cons (ix (n := 0) (x := k) rfl e25 rfl) ea_nil) (by show 1 ≤ 100000; decide)) (eu_tuple (K := K) (ev_var (i := 3) rfl) hD5) (by simp) (by rw [hfs]; simp [intsV]) (by simp [intsV]; omega)
          refine eu H5 (Ex.refl _) _ fun t H6 nt e6 ht => kS (k, fs.map valOf) (by rw [hD, if_pos ⟨hc.1, hc.2, List.all_eq_true.mpr hall, by rw [hfs]; exact hx3⟩]) t H6 (fresh_back (Ex.trans e1 e25) nt) (Ex.trans (Ex.trans e1 e25) e6) ht
    · have hf : (!decide (V.int ((((k :: fs).map V.str).length : Nat) : Int) = V.int ((if k ∈ kindsS then 1 + cntOf k else 0 : Nat) : Int))) = true := by
        cases hd : decide (V.int ((((k :: fs).map V.str).length : Nat) : Int) = V.int ((if k ∈ kindsS then 1 + cntOf k else 0 : Nat) : Int)) with
        | true => exact absurd (keyc hd) hc
        | false => rfl
      refine q_when (et_or (b := true) et1 fun h => by rw [hf] at h; cases h) (fun hb H3 e3 => ?_) (fun hb H3 e3 => ?_)
      · exact s_ret ev_c fun H4 e4 => kN (noD fun z => hc ⟨z.1, z.2.1⟩) H4 (Ex.trans e02 (Ex.trans e3 e4))
      · rw [hf] at hb
        cases hb
end
end Lm

namespace Lm
open PySem L2 Evl RZ TL
/-! ### things told, old or new -/
def EvR (te : TE) (σ : L2.St) (H : Hp) (d : Nat) (s : Sh) : Prop := ∀ H1, Ex H H1 → ∀ Q : VK, (∀ v H2, Ex H1 H2 → Rep H2 d v s → Q v H2) → te σ H1 Q
def RepsA (H : Hp) (d : Nat) (vs : List V) (ss : List Sh) : Prop := RepA H (fun _ => True) d vs ss
def EvRA (ta : TA) (σ : L2.St) (H : Hp) (d : Nat) (ss : List Sh) : Prop := ∀ H1, Ex H H1 → ∀ Q : List V → Hp → Prop, (∀ vs H2, Ex H1 H2 → RepsA H2 d vs ss → Q vs H2) → ta σ H1 Q
theorem EvS.r {te : TE} {σ : L2.St} {H : Hp} {d : Nat} {s : Sh} (h : EvS te σ H d s) : EvR te σ H d s := fun H1 e Q q => h H1 e _ fun v H2 e2 r => q v H2 e2 r.rep
section
variable {K : PySem.W.Frag} {σ : L2.St} {H H' : Hp} {te ta tb : TE} {tr : TA} {d : Nat} {s : Sh} {ss : List Sh}
theorem er_var {i : Nat} {v : V} (h : σ[i]? = some (some v)) (hr : Rep H d v s) : EvR (tVar i) σ H d s := fun H1 e Q q => ⟨v, h, q v H1 (Ex.refl _) (hr.ex e)⟩
theorem er_nil : EvRA tNil σ H d [] := fun H1 _ _ q => q [] H1 (Ex.refl _) ⟨rfl, fun i y s' h => by simp at h⟩
theorem er_cons (h : EvR ta σ H d s) (hr : EvRA tr σ H d ss) : EvRA (tCons ta tr) σ H d (s :: ss) := fun H1 e Q q => h H1 e _ fun v H2 e2 r2 => hr H2 (Ex.trans e e2) _ fun vs H3 e3 r3 => q (v :: vs) H3 (Ex.trans e2 e3) (RepA.cons (r2.ex e3) r3)
theorem er_lst (h : EvRA tr σ H d ss) (hl : ss.length ≤ 40000) : EvR (tLst tr) σ H (d + 1) (.l ss) := fun H1 e Q q => h H1 e _ fun vs H2 e2 r2 => ⟨sz_of (by rw [r2.1]; omega), fun p np => q (.ref p) _ (Ex.trans e2 (Ex.new np)) ⟨p, vs, rfl, trivial, upd_same, r2.1, by rw [r2.1]; exact hl, (RepA.ex (Ex.new np) r2).2⟩⟩
theorem er_tup (h : EvRA tr σ H d ss) (hl : ss.length ≤ 40000) : EvR (tTup tr) σ H (d + 1) (.t ss) := fun H1 e Q q => h H1 e _ fun vs H2 e2 r2 => ⟨sz_of (by rw [r2.1]; omega), fun p np => q (.ref p) _ (Ex.trans e2 (Ex.new np)) ⟨p, vs, rfl, trivial, upd_same, r2.1, by rw [r2.1]; exact hl, (RepA.ex (Ex.new np) r2).2⟩⟩
theorem er_rep {n : Nat} (h1 : EvR ta σ H (d + 1) (.l ss)) (h2 : ∀ H1, Ex H H1 → Ev tb σ H1 (.int (n : Int))) (hl : ss.length * n ≤ 40000) (hn : n ≤ 40000) : EvR (tOp rRep ta tb) σ H (d + 1) (.l (List.replicate n ss).flatten) := fun H1 e Q q => h1 H1 e _ fun v H2 e2 r2 => h2 H2 (Ex.trans e e2) H2 (Ex.refl _) _ fun H3 e3 => by
  obtain ⟨a, xs, rfl, ba, ha, ra⟩ := rep_l r2
  refine ⟨a, (n : Int), xs, rfl, rfl, e3 _ _ ha, by omega, by omega, sz_of (by rw [ra.1, Int.toNat_natCast]; omega), fun p np => q (.ref p) _ (Ex.trans e2 (Ex.trans e3 (Ex.new np))) ?_⟩
  have r := RepA_rep ((ra.ex e3).ex (Ex.new np (o := .lst (List.replicate ((n : Int)).toNat xs).flatten))) n
  refine ⟨p, (List.replicate ((n : Int)).toNat xs).flatten, rfl, trivial, upd_same, ?_, ?_, ?_⟩
  · rw [Int.toNat_natCast]; exact r.1
  · rw [Int.toNat_natCast, r.1, flat_len, Nat.mul_comm]; exact hl
  · rw [Int.toNat_natCast]
    rw [Int.toNat_natCast] at r
    exact r.2
theorem ev_sameR (h1 : EvR ta σ H d s) (h2 : EvR tb σ H d s) : Ev (tCall (spSame d) [] E0 (tCons ta (tCons tb tNil))) σ H (.bl true) := fun H1 e Q q =>
  h1 H1 e _ fun v H2 e2 r2 => h2 H2 (Ex.trans e e2) _ fun u H3 e3 r3 => ⟨v, u, rfl, Rep.same (RepB.ex e3 r2) r3, fun H4 e4 => q H4 (Ex.trans e2 (Ex.trans e3 e4))⟩
end
theorem rep_deeds {H : Hp} {k : Nat} {fl : Addr} {xs : List V} {ds : List Deed} (h : H fl = some (.lst xs)) (hD : DeedsT H xs ds) (hl : ds.length ≤ 20000) (hn : ∀ d ∈ ds, d.2.length ≤ 1000) : Rep H (k + 3) (.ref fl) (.l (ds.map dSh)) := by
  refine ⟨fl, xs, rfl, trivial, h, by rw [List.length_map, hD.1], by rw [hD.1]; omega, fun i y s' q1 q2 => ?_⟩
  rw [List.getElem?_map] at q2
  cases e : ds[i]? with
  | none => rw [e] at q2; cases q2
  | some d =>
    rw [e] at q2
    cases (Option.some.inj q2)
    obtain ⟨p, rfl, hp⟩ := hD.2 i y d q1 e
    exact rep_flatT trivial hp (by have := hn d (List.mem_of_getElem? e); simp [intsV]; omega) deed_flt
/-! ### what is due of a text -/
def outSh (x : Str) : Sh := match badAt x with
  | none => .t [.v (.str "told"), .l ((deedsOf x).map dSh)]
  | some n => .t [.v (.str "text"), .v (.int ((n : Int) + 1))]
theorem outSh_told {x : Str} (h : badAt x = none) : outSh x = .t [.v (.str "told"), .l ((deedsOf x).map dSh)] := by unfold outSh; rw [h]
theorem outSh_bad {x : Str} {n : Nat} (h : badAt x = some n) : outSh x = .t [.v (.str "text"), .v (.int ((n : Int) + 1))] := by unfold outSh; rw [h]
theorem full_head {x : Str} {i : Nat} {l : Str} (h : (headL x)[i]? = some l) : (fullL x)[i]? = some (true, l) := by
  have hi := (List.getElem?_eq_some_iff.mp h).1
  unfold fullL
  rw [List.getElem?_append_left (by rw [List.length_map]; exact hi), List.getElem?_map, h]
  rfl
theorem full_last {x : Str} (h : lastL x ≠ "") : (fullL x)[(headL x).length]? = some (false, lastL x) := by
  unfold fullL
  rw [if_neg h, List.getElem?_append_right (by rw [List.length_map]; exact Nat.le_refl _), List.length_map, Nat.sub_self]
  rfl
theorem full_nl {x : Str} (h : lastL x = "") : fullL x = (headL x).map fun l => (true, l) := by
  unfold fullL
  rw [if_pos h, List.append_nil]
theorem deedsOf_nl {x : Str} (h : lastL x = "") : deedsOf x = (headL x).filterMap deedL := by
  unfold deedsOf
  rw [full_nl h, List.filterMap_map]
  rfl
theorem deedL_n {l : Str} {d : Deed} (h : deedL l = some d) : d.2.length ≤ 2 := by
  unfold deedL deedW at h
  split at h
  · cases h
  · split at h
    · rename_i hc
      cases (Option.some.inj h)
      rw [List.length_map, hc.2.1]
      unfold cntOf
      split <;> omega
    · cases h
theorem deedsOf_n {x : Str} : ∀ d ∈ deedsOf x, d.2.length ≤ 1000 := fun d hd => by
  obtain ⟨z, hz, h⟩ := List.mem_filterMap.mp hd
  unfold outOf at h
  split at h
  · have := deedL_n h; omega
  · cases h
theorem deedsOf_len {x : Str} (h : TxOk x) : (deedsOf x).length ≤ 10001 := Nat.le_trans (List.length_filterMap_le _ _) (Nat.le_trans (full_len x) h.count)
theorem str_flt (z : Str) : flt (.str z) := .inr (.inr (.inl ⟨z, rfl⟩))
section
variable {P : Program} {w : World} {K : PySem.W.Frag} {mg : Str → Option Value} {base : Heap} {f : Addr} {fd : FuncData}
def spOut : Sp := fun vs H Q _ => ∃ x : Str, vs = [.str x] ∧ TxOk x ∧ ∀ v H', Ex H H' → Rep H' 4 v (outSh x) → Q v H'
theorem er_told {σ : L2.St} {H : Hp} {i : Nat} {fl : Addr} {xs : List V} {x : Str} (hx : TxOk x) (hb : badAt x = none) (hi : σ[i]? = some (some (.ref fl))) (hf : H fl = some (.lst xs)) (hD : DeedsT H xs (deedsOf x)) : EvR (tTup (tCons (tC (.str "told")) (tCons (tVar i) tNil))) σ H 4 (outSh x) := by
  rw [outSh_told hb]
  exact er_tup (er_cons (es_s ev_c).r (er_cons (er_var hi (rep_deeds hf hD (by have := deedsOf_len hx; omega) deedsOf_n)) er_nil)) (by show 2 ≤ 40000; decide)
theorem er_text {σ : L2.St} {H : Hp} {te : TE} {n : Nat} {x : Str} (hb : badAt x = some n) (h : Ev te σ H (.int ((n : Int) + 1))) : EvR (tTup (tCons (tC (.str "text")) (tCons te tNil))) σ H 4 (outSh x) := by
  rw [outSh_bad hb]
  exact er_tup (er_cons (es_s ev_c).r (er_cons (es_i h).r er_nil)) (by show 2 ≤ 40000; decide)
theorem s_retR {te : TE} {D : Ends} {σ : L2.St} {H : Hp} {d : Nat} {s : Sh} (h : EvR te σ H d s) (k : ∀ v H1, Ex H H1 → Rep H1 d v s → D.rt v H1) : tRet te D σ H := h H (Ex.refl _) _ k
theorem ev_k1 {σ : L2.St} {H : Hp} {i n : Nat} (h : σ[i]? = some (some (.int (n : Nat)))) : Ev (tOp (rI0 fun i j => .int (i + j)) (tVar i) (tC (.int 1))) σ H (.int ((n : Int) + 1)) := ev_op (ev_var h) ev_c fun H1 e Q q => ⟨_, _, rfl, rfl, q H1 (Ex.refl _)⟩
theorem ev_m1 {σ : L2.St} {H : Hp} : Ev (tUn (rU fun i => .int (-i)) (tC (.int 1))) σ H (.int (-1)) := fun H1 e Q q => ⟨1, rfl, q H1 (Ex.refl _)⟩
abbrev s_due : Stmt := top 27
theorem sc_due : FnScope ["_law_x", "_law_lines", "_law_found", "_law_k", "_law_line"] ["_law_x"] (defScope s_due) := ⟨rfl, rfl, rfl, by decide +kernel, rfl, by decide +kernel, by decide +kernel⟩
theorem ok_due {fD : Addr} {dD : FuncData} (F : L2.Fun K "_law_due" "_law_due" s_due f fd) (T : Blt mg) (D_deed_of : DefOk P w K mg base 2 "_law_deed_of" fD dD ["_law_line"] spDeedL) : FnOk P w K mg base CX0 3 f fd ["_law_x"] spOut := by
  refine F.ok sc_due (fun vs H Q E h => ?_) (fun cdv A outer s H vs Q E hr h => ?_)
  · obtain ⟨x, rfl, _⟩ := h
    rfl
  · obtain ⟨x, rfl, hx, k⟩ := h
    refine ⟨_, (pss_cons (ps_par (i := 1) (j := 2) (by rfl) sc_due.nd rfl rfl (by decide) rfl rfl (pa_cons (pe_split (pv 0) pe_str) (pa_cons (pe_lst pa_nil) pa_nil)) (by rfl))
        (pss_cons (ps_for PassesOwn.never rfl (pi_enumA rfl T.b_enumerate (pa_cons (pv 1) pa_nil)) (pg_tup rfl (pgs_cons (pg_name (i := 3) sc_due.nd rfl (by first | exact Or.inl rfl | exact Or.inr rfl)) (pgs_cons (pg_name (i := 4) sc_due.nd rfl (by first | exact Or.inl rfl | exact Or.inr rfl)) pgs_nil))) (pss_cons (ps_if (pt_cmpR op_eq (pv 3) (pe_op op_sub (pe_callB call_len_seq (by rfl) T.b_len PySem.boot_len (pa_cons (pv 1) pa_nil)) pe_int) (nomark _)) (pss_one (ps_ret (pe_ifExp (pt_cmpR op_eq (pv 4) pe_str (nomark _)) (pe_tup (pa_cons pe_str (pa_cons (pv 2) pa_nil))) (pe_tup (pa_cons pe_str (pa_cons (pe_op op_add (pv 3) pe_int) pa_nil)))))) pss_nil)
        (pss_cons (ps_expr (pe_bm PySem.F.plainAttrs_list PySem.F.slot_list_append PySem.F.type_list_append mt_append (pv 2) (pa_cons (pe_d D_deed_of (hr.mono (by decide)) (pa_cons (pv 4) pa_nil)) pa_nil)))
        (pss_one (ps_if (pt_cmpR op_isN1 (pe_ix ix_list (pv 2) (pe_un un_neg pe_int) (fun _ _ => rfl)) pe_non (nomark _)) (pss_one (ps_ret (pe_tup (pa_cons pe_str (pa_cons (pe_op op_add (pv 3) pe_int) pa_nil))))) pss_nil)))))
        (pss_one (ps_ret pe_non)))), ?_⟩
    have hxl := hx.len
    refine ⟨_, rfl, ⟨_, rfl⟩, x, "\n", rfl, rfl, rfl, sz_of (by omega), fun lp nlp => ⟨by show 0 ≤ sizeLine; decide, fun fl nfl => ⟨_, _, rfl, ?_⟩⟩⟩
    have hsp : Txt.split x "\n" = headL x ++ [lastL x] := lines_eq x
    rw [hsp] at nfl ⊢
    have s0 := Ex.new nlp (o := .lst ((headL x ++ [lastL x]).map V.str))
    have e02 := Ex.trans s0 (Ex.new nfl (o := .lst []))
    have nfl0 : H fl = none := fresh_back s0 nfl
    have hfl2 : (upd (upd H lp (.lst ((headL x ++ [lastL x]).map V.str))) fl (.lst [])) fl = some (.lst []) := upd_same
    have hlp2 : (upd (upd H lp (.lst ((headL x ++ [lastL x]).map V.str))) fl (.lst [])) lp = some (.lst ((headL x ++ [lastL x]).map V.str)) := by
      rw [upd_ne (fun z => by subst z; rw [upd_same] at nfl; cases nfl)]
      exact upd_same
    have nlf : lp ≠ fl := fun z => by subst z; rw [upd_same] at nfl; cases nfl
    generalize upd (upd H lp (.lst ((headL x ++ [lastL x]).map V.str))) fl (.lst []) = H2 at e02 hfl2 hlp2
    have hc := hx.count
    rw [lines_eq, List.length_append] at hc
    have h1 : ([lastL x] : List Str).length = 1 := rfl
    have lm : ((headL x ++ [lastL x]).map V.str).length = (headL x).length + 1 := by rw [List.length_map, List.length_append]; rfl
    refine ⟨_, rfl, lp, _, rfl, .inl ⟨SqL.of hlp2, for_it walk_enum (fun i σ' H' => i ≤ (headL x).length ∧ ∃ u3 u4 : Option V, σ' = [some (.str x), some (.ref lp), some (.ref fl), u3, u4] ∧ Ex H H' ∧ H' lp = some (.lst ((headL x ++ [lastL x]).map V.str)) ∧ (∀ j < i, ∀ z, (fullL x)[j]? = some z → (outOf z.1 z.2).isNone = false) ∧ ∃ xs, H' fl = some (.lst xs) ∧ DeedsT H' xs (((headL x).take i).filterMap deedL)) ⟨Nat.zero_le _, _, _, rfl, e02, hlp2, fun j hj => absurd hj (Nat.not_lt_zero _), [], hfl2, rfl, fun i v d a b => by simp at a⟩ (fun i σ' H' _ ⟨_, _, _, _, _, h, _⟩ => SqL.of h) ?_ ?_⟩⟩
    · rintro i v σ' H3 H4 hi ⟨hile, u3, u4, rfl, e3, hlp3, hpre, xs, hxs, hDs⟩ ⟨t, x1, x2, rfl, nt, rfl, hx1, hx2⟩
      cases (Option.some.inj hx1)
      have hx2 : ((headL x ++ [lastL x]).map V.str)[i]? = some x2 := hx2
      obtain ⟨l, hl, rfl⟩ := map_inv hx2
      have hlen : l.length ≤ 100 := hx.ln l (by rw [lines_eq]; exact List.mem_of_getElem? hl)
      refine ⟨t, _, rfl, SqT.of upd_same, rfl, _, _, rfl, _, _, rfl, rfl, ?_⟩
      dsimp only [List.set]
      have et := Ex.new nt (o := .tup [.int (i : Nat), .str l])
      have hlp4 := et _ _ hlp3
      have hxs4 := et _ _ hxs
      have hDs4 := hDs.same et
      have e04 := Ex.trans e3 et
      generalize upd H3 t (.tup [.int (i : Nat), .str l]) = H4 at hlp4 hxs4 hDs4 e04
      have lxs : xs.length ≤ 10001 := by rw [hDs.1]; exact Nat.le_trans (List.length_filterMap_le _ _) (by rw [List.length_take]; omega)
      have elen := ev_lenL (K := K) (σ := [some (.str x), some (.ref lp), some (.ref fl), some (.int (i : Nat)), some (.str l)]) (ev_var (i := 1) rfl) hlp4
      have etk : EvT (tTest (tOp rEq (tVar 3) (tOp (rI0 fun i j => .int (i - j)) (tCB (rLenS K) (tCons (tVar 1) tNil)) (tC (.int 1))))) [some (.str x), some (.ref lp), some (.ref fl), some (.int (i : Nat)), some (.str l)] H4 (decide (i = (headL x).length)) := by
        refine et_is (et_test (ev_op (ev_var (v := .int (i : Nat)) rfl) (ev_op (z := .int ((headL x).length : Nat)) elen ev_c fun H1 e Q q => ⟨_, _, rfl, rfl, ?_⟩) (rv_eq rfl))) ?_
        · rw [lm]
          have : (((headL x).length + 1 : Nat) : Int) - 1 = ((headL x).length : Nat) := by omega
          show Q (.int ((((headL x).length + 1 : Nat) : Int) - 1)) H1
          rw [this]
          exact q H1 (Ex.refl _)
        · have : (V.int (i : Nat) = V.int ((headL x).length : Nat)) = (i = (headL x).length) := propext ⟨fun z => Int.ofNat.inj (V.int.inj z), fun z => by rw [z]⟩
          simp only [this]
      refine q_when etk (fun hb H5 e5 => ?_) (fun hb H5 e5 => ?_)
      · -- the last one
        have hi := of_decide_eq_true hb
        subst hi
        have hll : l = lastL x := by
          rw [List.getElem?_append_right (Nat.le_refl _), Nat.sub_self] at hl
          exact (Option.some.inj hl).symm
        subst hll
        have etl : EvT (tTest (tOp rEq (tVar 4) (tC (.str "")))) [some (.str x), some (.ref lp), some (.ref fl), some (.int ((headL x).length : Nat)), some (.str (lastL x))] H5 (decide (lastL x = "")) := et_is (et_test (ev_op (ev_var (v := .str (lastL x)) rfl) ev_c (rv_eq rfl))) (str_eqD _ _)
        refine r_if etl (fun hb H6 e6 => ?_) (fun hb H6 e6 => ?_)
        · have h0 := of_decide_eq_true hb
          have hbad : badAt x = none := by
            unfold badAt
            rw [List.findIdx?_eq_none_iff]
            intro z hz
            obtain ⟨j, hj⟩ := List.mem_iff_getElem?.mp hz
            refine hpre j ?_ z hj
            have := (List.getElem?_eq_some_iff.mp hj).1
            rw [full_nl h0, List.length_map] at this
            exact this
          rw [List.take_length] at hDs4
          have e46 := Ex.trans e5 e6
          refine s_retR (D := { nx := fun x H' => Q V.non H', rt := Q }) (er_told hx hbad rfl (e46 _ _ hxs4) (by rw [deedsOf_nl h0]; exact hDs4.same e46)) fun v H7 e7 r => k v H7 (Ex.trans e04 (Ex.trans e46 e7)) r
        · have h0 := of_decide_eq_false hb
          have hbad : badAt x = some (headL x).length := findIdx_pre hpre (full_last h0) rfl
          refine s_retR (D := { nx := fun x H' => Q V.non H', rt := Q }) (er_text hbad (ev_k1 rfl)) fun v H7 e7 r => k v H7 (Ex.trans e04 (Ex.trans e5 (Ex.trans e6 e7))) r
      · have hne := of_decide_eq_false hb
        have hilt : i < (headL x).length := by omega
        have hlh : (headL x)[i]? = some l := by rw [List.getElem?_append_left hilt] at hl; exact hl
        have hfull := full_head hlh
        have hfs5 := e5 _ _ hxs4
        have lp5 := e5 _ _ hlp4
        refine ⟨_, rfl, .inl ⟨rfl, _, SqL.of hfs5⟩, _, rfl, l, rfl, hlen, fun d hd p H6 np e6 hp => ?_, fun hd H6 e6 => ?_⟩
        · have e46 := Ex.trans e5 e6
          have hx6 := e46 _ _ hxs4
          refine ⟨fl, _, _, rfl, rfl, hx6, sz_of (by omega), ?_⟩
          have hD7 := DeedsT.kp (DeedsT.app (hDs4.same e46) hp) (Kp.upd fl H6 (.lst (xs ++ [.ref p]))) hx6
          have hx7 : (upd H6 fl (.lst (xs ++ [.ref p]))) fl = some (.lst (xs ++ [.ref p])) := upd_same
          refine s_when (b := false) (et_is (et_test (ev_isN (ev_op (ev_var (σ := [some (.str x), some (.ref lp), some (.ref fl), some (.int (i : Nat)), some (.str l)]) (i := 2) rfl) ev_m1 (rv_ixL (K := K) (SqL.of hx7) (atI_last _ _))))) (decide_eq_false fun z => nomatch z)) (fun z => nomatch z) fun _ H8 e8 => ?_
          refine ⟨hilt, _, _, rfl, Ex.trans (Ex.mut (Ex.trans e04 e46) nfl0) e8, ?_, fun j hj y hy => ?_, xs ++ [.ref p], e8 _ _ hx7, ?_⟩
          · refine e8 _ _ ?_
            rw [upd_ne nlf]
            exact e6 _ _ lp5
          · rcases Nat.lt_or_ge j i with q | q
            · exact hpre j q y hy
            · have : j = i := by omega
              subst this
              rw [hfull] at hy
              cases hy
              show (deedL l).isNone = false
              rw [hd]
              rfl
          · have h1 : ((headL x).take (i + 1)).filterMap deedL = ((headL x).take i).filterMap deedL ++ [d] := by
              rw [List.take_succ, hlh, List.filterMap_append]
              simp [hd]
            rw [h1]
            exact hD7.same e8
        · have e46 := Ex.trans e5 e6
          have hx6 := e46 _ _ hxs4
          refine ⟨fl, _, _, rfl, rfl, hx6, sz_of (by omega), ?_⟩
          have hx7 : (upd H6 fl (.lst (xs ++ [.non]))) fl = some (.lst (xs ++ [.non])) := upd_same
          refine s_when (b := true) (et_is (et_test (ev_isN (ev_op (ev_var (σ := [some (.str x), some (.ref lp), some (.ref fl), some (.int (i : Nat)), some (.str l)]) (i := 2) rfl) ev_m1 (rv_ixL (K := K) (SqL.of hx7) (atI_last _ _))))) (decide_eq_true rfl)) (fun _ H8 e8 => ?_) (fun z => nomatch z)
          have hbad : badAt x = some i := findIdx_pre hpre hfull (by show (deedL l).isNone = true; rw [hd]; rfl)
          refine s_retR (D := { nx := fun x H' => Q V.non H', rt := Q }) (er_text hbad (ev_k1 rfl)) fun v H9 e9 r => k v H9 (Ex.trans (Ex.mut (Ex.trans e04 e46) nfl0) (Ex.trans e8 e9)) r
    · rintro σ' H3 ⟨hile, _⟩
      rw [lm] at hile
      omega
end
end Lm

namespace Lm
open PySem L2 Evl RZ TL
section
variable {P : Program} {w : World} {K : PySem.W.Frag} {mg : Str → Option Value} {base : Heap} {f : Addr} {fd : FuncData}
abbrev s_tried : Stmt := top 23
theorem sc_tried : FnScope ["_law_x", "_law_found", "e"] ["_law_x"] (defScope s_tried) := ⟨rfl, rfl, rfl, by decide +kernel, rfl, by decide +kernel, by decide +kernel⟩
theorem ok_tried {CB fX fR : Addr} {dR : FuncData} (F : L2.Fun K "_law_tried" "_law_tried" s_tried f fd) (TB : ErrF K mg "BadText" CB fX "line") (D_read_history : DefOkX P w K mg base 3 "read_history" fR dR ["text"] (spRead CB)) : FnOk P w K mg base CX0 4 f fd ["_law_x"] spOut := by
  refine F.ok sc_tried (fun vs H Q E h => ?_) (fun cdv A outer s H vs Q E hr h => ?_)
  · obtain ⟨x, rfl, _⟩ := h
    rfl
  · obtain ⟨x, rfl, hx, k⟩ := h
    refine ⟨_, (pss_cons (ps_set (i := 1) sc_tried.nd rfl (by first | exact Or.inl rfl | exact Or.inr rfl) (pe_tup (pa_cons pe_str pa_nil)))
        (pss_cons (ps_try_as (c := .ref CB) (i := 2) (tb := fun W => tAsg (tTup (tCons (tC (.str "told")) (tCons (tCallS (spRead CB) (WE W) (tCons (tVar 0) tNil)) tNil))) (gName 1)) (ts := fun a cls d => tAsg (tTup (tCons (tC (.str "text")) (tCons (tXf a cls d CB "line" (tVar 2)) tNil))) (gName 1)) (Wout := fun _ _ _ _ => False) rfl rfl sc_tried.nd rfl rfl ⟨rfl, by decide, Or.inl TB.g⟩ L2.takes0
          (fun W pn xe tk _ => pss_one (ps_set (i := 1) sc_tried.nd rfl (by first | exact Or.inl rfl | exact Or.inr rfl) (pe_tup (pa_cons pe_str (pa_cons (pe_callS D_read_history.ok (hr.mono (by decide)) rfl D_read_history.mg D_read_history.kp D_read_history.bd (fun σ => passAt tk σ) (pa_cons (pv 0) pa_nil)) pa_nil)))))
          (fun a oe cls d pn hz hf => pss_one (ps_set (i := 1) sc_tried.nd rfl (by first | exact Or.inl rfl | exact Or.inr rfl) (pe_tup (pa_cons pe_str (pa_cons (pe_xf TB.X TB.no hz hf (pv 2)) pa_nil))))))
        (pss_one (ps_ret (pv 1))))), ?_⟩
    refine q_asgU (eu_tup (ea_cons ev_c ea_nil) (by show 1 ≤ 100000; decide)) fun p0 H1 np0 e1 hp0 => ?_
    refine ⟨_, rfl, x, rfl, hx, fun hb p xs H2 np e2 hp hD => ?_, fun n hb H2 d e2 nd => ⟨true, TB.exm, fun _ b nb => ?_, fun z => nomatch z⟩⟩
    · refine ⟨by show 2 ≤ sizeLine; decide, fun q nq => ⟨_, rfl, ?_⟩⟩
      have e3 := Ex.new nq (o := .tup [.str "told", .ref p])
      refine k (.ref q) _ (Ex.trans e1 (Ex.trans e2 e3)) ?_
      rw [outSh_told hb]
      refine ⟨q, _, rfl, trivial, upd_same, rfl, by show 2 ≤ 40000; decide, fun i y s' q1 q2 => ?_⟩
      match i, q1, q2 with
      | 0, q1, q2 => cases (Option.some.inj q1); cases (Option.some.inj q2); exact ⟨rfl, str_flt _⟩
      | 1, q1, q2 => cases (Option.some.inj q1); cases (Option.some.inj q2); exact rep_deeds (e3 _ _ hp) (hD.same e3) (by have := deedsOf_len hx; omega) deedsOf_n
      | i + 2, q1, q2 => simp at q1
    · refine ⟨_, rfl, rfl, rfl, d, _, .int ((n : Int) + 1), rfl, upd_same, by simp [List.lookup], by show 2 ≤ sizeLine; decide, fun q nq => ⟨_, rfl, ?_⟩⟩
      have e3 := Ex.trans (Ex.new nd) (Ex.new nq (o := .tup [.str "text", .int ((n : Int) + 1)]))
      refine k (.ref q) _ (Ex.trans e1 (Ex.trans e2 e3)) ?_
      rw [outSh_bad hb]
      refine ⟨q, _, rfl, trivial, upd_same, rfl, by show 2 ≤ 40000; decide, fun i y s' q1 q2 => ?_⟩
      match i, q1, q2 with
      | 0, q1, q2 => cases (Option.some.inj q1); cases (Option.some.inj q2); exact ⟨rfl, str_flt _⟩
      | 1, q1, q2 => cases (Option.some.inj q1); cases (Option.some.inj q2); exact ⟨rfl, .inl ⟨_, rfl⟩⟩
      | i + 2, q1, q2 => simp at q1
end
end Lm

namespace Lm
open PySem L2 Evl RZ TL
section
variable {P : Program} {w : World} {K : PySem.W.Frag} {mg : Str → Option Value} {base : Heap} {f : Addr} {fd : FuncData}
def spSpoil : Sp := fun vs H Q _ => ∃ (st c : Addr) (x : Str) (M : Nat), vs = [.ref st, .str x] ∧ StAt H st c ∧ SgB M (tl x) ∧ M ≤ 100 ∧ x.length ≤ 5000 ∧ ∀ (y : Str) H', SgB (2 * M + 6) (tl y) → y.length ≤ x.length + M + 7 → StAt H' st c → Kp st H H' → Q (.str y) H'
theorem strs_of {l : List Str} {v : V} (h : v ∈ l.map V.str) : ∃ m, v = .str m ∧ m ∈ l := by
  obtain ⟨m, hm, rfl⟩ := List.mem_map.mp h
  exact ⟨m, rfl, hm⟩
def mores : List Str := ["0", "3", "00", "-1", "+1", "1_0", "", "take", "x"]
def signs6 : List Str := [" ", "\n", "0", "1", "a", "~"]
theorem mores_len : ∀ m ∈ mores, m.length ≤ 4 := by decide +kernel
theorem signs6_len : ∀ m ∈ signs6, m.length ≤ 1 := by decide +kernel
theorem ev_joinL {σ : L2.St} {H : Hp} {te tj : TE} {y : Str} {p : Addr} {ps : List Str} (hy : Ev tj σ H (.str y)) (h : ∀ H1, Ex H H1 → Ev te σ H1 (.ref p)) (hp : H p = some (.lst (ps.map V.str))) (hz : (ps.map (·.length)).sum + ps.length * y.length ≤ 16777216) : Ev (tM1 (rJoin K) tj te) σ H (.str (Txt.join y ps)) := fun H1 e Q q => hy H1 e _ fun H2 e2 => ⟨⟨_, rfl⟩, h H2 (Ex.trans e e2) H2 (Ex.refl _) _ fun H3 e3 => ⟨y, p, ps, rfl, rfl, .inl (SqL.of (Ex.trans e (Ex.trans e2 e3) _ _ hp)), hz, q H3 (Ex.trans e2 e3)⟩⟩
theorem join_wgt1 {y : Str} (hy : y.length = 1) (ps : List Str) : (Txt.join y ps).length ≤ wgt ps := by
  have := join_len y ps
  rw [hy, Nat.mul_one] at this
  exact this
theorem sg_joinS {M : Nat} {ps : List Str} (h : ∀ p ∈ ps, p.length ≤ M) : SgB M (tl (Txt.join "\n" ps)) := by
  rw [join_eq, tl_join, tl_nl]
  refine sg_join fun p hp => ?_
  obtain ⟨q, hq, rfl⟩ := List.mem_map.mp hp
  exact sg_short (by rw [← len_tl]; exact h q hq)
theorem repL_inv {H : Hp} {B : Addr → Prop} {k : Nat} {v : V} {ys : List V} (h : RepB H B (k + 2) v (.l (ys.map .v))) : ∃ p : Addr, v = .ref p ∧ H p = some (.lst ys) := by
  obtain ⟨a, xs, h1, _, h2, h3, _, h5⟩ := h
  refine ⟨a, h1, ?_⟩
  have : xs = ys := by
    refine List.ext_getElem? fun i => ?_
    rw [List.length_map] at h3
    cases e : xs[i]? with
    | none =>
      have := List.getElem?_eq_none_iff.mp e
      rw [List.getElem?_eq_none (by omega)]
    | some x =>
      have hi := (List.getElem?_eq_some_iff.mp e).1
      have hj : ys[i]? = some (ys[i]'(by omega)) := List.getElem?_eq_getElem _
      generalize ys[i]'(by omega) = y at hj
      have := h5 i x (.v y) e (by rw [List.getElem?_map, hj]; rfl)
      rw [hj, this.1]
  rw [h2, this]
theorem strs_flt (l : List Str) : ∀ x ∈ l.map V.str, flt x := fun x hx => by
  obtain ⟨z, _, rfl⟩ := List.mem_map.mp hx
  exact str_flt z
/-- words with one less, another or one more -/
def wsel (ws : List Str) (n : Nat) (m : Str) : List (List Str) := [ws.take n ++ ws.drop (n + 1), ws.take n ++ [m] ++ ws.drop (n + 1), ws.take n ++ [m] ++ ws.drop n]
theorem wsel_wgt {ws : List Str} {n : Nat} {m : Str} (hm : m.length ≤ 4) : ∀ W ∈ wsel ws n m, wgt W ≤ wgt ws + 5 := fun W hW => by
  have h1 := wgt_cut ws n
  have h2 := wgt_drop ws n
  have h3 := wgt_one m
  unfold wsel at hW
  simp only [List.mem_cons, List.not_mem_nil, or_false] at hW
  rcases hW with rfl | rfl | rfl
  · rw [wgt_app]; omega
  · rw [wgt_app, wgt_app]; omega
  · rw [wgt_app, wgt_app]; omega
section
variable {σ : L2.St} {H : Hp}
theorem el_slTo {te tn : TE} {a : Addr} {l : List Str} {n : Nat} (h : Ev te σ H (.ref a)) (ha : H a = some (.lst (l.map V.str))) (hn : Ev tn σ H (.int (n : Nat))) : EvL (tSl (rSlL K) te tNoPart (tPart tn)) σ H ((l.take n).map V.str) := by
  have := el_sl (K := K) h eo_none (eo_some hn) (SqL.of ha)
  rw [cutV_to] at this
  rw [List.map_take]
  exact this
theorem el_slFr {te tn : TE} {a : Addr} {l : List Str} {n : Nat} (h : Ev te σ H (.ref a)) (ha : H a = some (.lst (l.map V.str))) (hn : Ev tn σ H (.int (n : Nat))) : EvL (tSl (rSlL K) te (tPart tn) tNoPart) σ H ((l.drop n).map V.str) := by
  have := el_sl (K := K) h (eo_some hn) eo_none (SqL.of ha)
  rw [cutV_from] at this
  rw [List.map_drop]
  exact this
theorem ev_inc {i n : Nat} (h : σ[i]? = some (some (.int (n : Nat)))) : Ev (tOp (rI0 fun i j => .int (i + j)) (tVar i) (tC (.int 1))) σ H (.int ((n + 1 : Nat) : Int)) := ev_op (ev_var h) ev_c fun H1 e Q q => ⟨_, _, rfl, rfl, by
  have : (n : Int) + 1 = ((n + 1 : Nat) : Int) := by omega
  show Q (.int ((n : Int) + 1)) H1
  rw [this]
  exact q H1 (Ex.refl _)⟩
theorem el_catS {ta tb : TE} {p q : List Str} (h1 : EvL ta σ H (p.map V.str)) (h2 : EvL tb σ H (q.map V.str)) (hl : p.length + q.length ≤ 100000) : EvL (tOp rCat ta tb) σ H ((p ++ q).map V.str) := by
  rw [List.map_append]
  exact el_cat h1 h2 (by rw [List.length_map, List.length_map]; exact hl)
end
theorem tl_cutTo (x : Str) (k : Nat) : tl (cutS x none (some (k : Int))) = (tl x).take k := by
  show ((x.cps.toList.drop (HT.sIx x.length 0 none)).take (HT.sIx x.length x.length (some (k : Int)) - HT.sIx x.length 0 none)) = _
  rw [HT.sIx_nat, HT.sIx_none, List.drop_zero, Nat.sub_zero]
  have hl : x.length = x.cps.toList.length := by rw [len_tl]
  rcases Nat.le_total k x.length with h | h
  · rw [Nat.min_eq_left h]
  · rw [Nat.min_eq_right h, hl, List.take_length]
    exact (List.take_of_length_le (by show (tl x).length ≤ k; rw [← len_tl]; exact h)).symm
theorem tl_cutFr (x : Str) (k : Nat) : tl (cutS x (some (k : Int)) none) = (tl x).drop k := by
  show ((x.cps.toList.drop (HT.sIx x.length 0 (some (k : Int)))).take (HT.sIx x.length x.length none - HT.sIx x.length 0 (some (k : Int)))) = _
  rw [HT.sIx_nat, HT.sIx_none]
  have hl : x.length = x.cps.toList.length := by rw [len_tl]
  rcases Nat.le_total k x.length with h | h
  · rw [Nat.min_eq_left h]
    exact List.take_of_length_le (by rw [List.length_drop, hl]; exact Nat.le_refl _)
  · rw [Nat.min_eq_right h, hl, List.drop_length]
    rw [List.take_nil]
    exact (List.drop_of_length_le (by show (tl x).length ≤ k; rw [← len_tl]; exact h)).symm
section
variable {σ : L2.St} {H : Hp}
theorem ev_slS {te : TE} {tl' th : TO} {lo hi : Option Int} {z : Str} (h : Ev te σ H (.str z)) (h1 : EvO tl' σ H lo) (h2 : EvO th σ H hi) (hz : z.length ≤ 100000) : Ev (tSl rSlS te tl' th) σ H (.str (cutS z lo hi)) := fun H1 e Q q => h H1 e _ fun H2 e2 => h1 H2 (Ex.trans e e2) _ fun H3 e3 => h2 H3 (Ex.trans e (Ex.trans e2 e3)) _ fun H4 e4 => ⟨z, rfl, sz_of hz, q H4 (Ex.trans e2 (Ex.trans e3 e4))⟩
theorem ev_addS {ta tb : TE} {a b : Str} (h1 : Ev ta σ H (.str a)) (h2 : Ev tb σ H (.str b)) (hz : a.length + b.length ≤ 100000) : Ev (tOp rAddS ta tb) σ H (.str (a ++ b)) := fun H1 e Q q => h1 H1 e _ fun H2 e2 => h2 H2 (Ex.trans e e2) _ fun H3 e3 => ⟨a, b, rfl, rfl, sz_of hz, q H3 (Ex.trans e2 e3)⟩
end
abbrev s_spoilt_text : Stmt := top 28
theorem sc_spoilt_text : FnScope ["_law_state", "_law_x", "_law_lines", "_law_way", "_law_k", "_law_at", "_law_words", "_law_n", "_law_more", "_law_some", "_law_sign"] ["_law_state", "_law_x"] (defScope s_spoilt_text) := ⟨rfl, rfl, rfl, by decide +kernel, rfl, by decide +kernel, by decide +kernel⟩
theorem ok_spoilt {fT fO : Addr} {dT dO : FuncData} (F : L2.Fun K "_law_spoilt_text" "_law_spoilt_text" s_spoilt_text f fd) (T : Blt mg) (D_take : DefOk P w K mg base 2 "_law_take" fT dT ["_law_state", "_law_many"] spTake) (D_one : DefOk P w K mg base 3 "_law_one" fO dO ["_law_state", "_law_things"] (spOneA K)) :
    FnOk P w K mg base CX0 4 f fd ["_law_state", "_law_x"] spSpoil := by
  refine F.ok sc_spoilt_text (fun vs H Q E h => ?_) (fun cdv A outer s H vs Q E hr h => ?_)
  · obtain ⟨st, c, x, M, rfl, _⟩ := h
    rfl
  · obtain ⟨st, c, x, M, rfl, S, hsg, hM, hxl, k⟩ := h
    refine ⟨_, (pss_cons (ps_par (i := 2) (j := 3) (by rfl) sc_spoilt_text.nd rfl rfl (by decide) rfl rfl (pa_cons (pe_split (pv 1) pe_str) (pa_cons (pe_d D_take (hr.mono (by decide)) (pa_cons (pv 0) (pa_cons pe_int pa_nil))) pa_nil)) (by rfl))
        (pss_cons (ps_par (i := 4) (j := 5) (by rfl) sc_spoilt_text.nd rfl rfl (by decide) rfl rfl (pa_cons (pe_d D_take (hr.mono (by decide)) (pa_cons (pv 0) (pa_cons (pe_callB call_len_seq (by rfl) T.b_len PySem.boot_len (pa_cons (pv 2) pa_nil)) pa_nil))) (pa_cons (pe_d D_take (hr.mono (by decide)) (pa_cons (pv 0) (pa_cons (pe_op op_add (pe_callB call_len_str (by rfl) T.b_len PySem.boot_len (pa_cons (pv 1) pa_nil)) pe_int) pa_nil))) pa_nil)) (by rfl))
        (pss_cons (ps_if (pt_cmpR op_lt (pv 3) pe_int (nomark _)) (pss_cons (ps_set (i := 6) sc_spoilt_text.nd rfl (by first | exact Or.inl rfl | exact Or.inr rfl) (pe_split (pe_ix ix_list (pv 2) (pv 4) (fun _ _ => rfl)) pe_str))
        (pss_cons (ps_par (i := 7) (j := 8) (by rfl) sc_spoilt_text.nd rfl rfl (by decide) rfl rfl (pa_cons (pe_d D_take (hr.mono (by decide)) (pa_cons (pv 0) (pa_cons (pe_callB call_len_seq (by rfl) T.b_len PySem.boot_len (pa_cons (pv 6) pa_nil)) pa_nil))) (pa_cons (pe_d D_one (hr.mono (by decide)) (pa_cons (pv 0) (pa_cons (pe_lst (pa_cons pe_str (pa_cons pe_str (pa_cons pe_str (pa_cons pe_str (pa_cons pe_str (pa_cons pe_str (pa_cons pe_str (pa_cons pe_str (pa_cons pe_str pa_nil)))))))))) pa_nil))) pa_nil)) (by rfl))
        (pss_cons (ps_set (i := 9) sc_spoilt_text.nd rfl (by first | exact Or.inl rfl | exact Or.inr rfl) (pe_lst (pa_cons (pe_op op_cat (pe_slice sl_list (pv 6) po_none (po_some (pv 7))) (pe_slice sl_list (pv 6) (po_some (pe_op op_add (pv 7) pe_int)) po_none)) (pa_cons (pe_op op_cat (pe_op op_cat (pe_slice sl_list (pv 6) po_none (po_some (pv 7))) (pe_lst (pa_cons (pv 8) pa_nil))) (pe_slice sl_list (pv 6) (po_some (pe_op op_add (pv 7) pe_int)) po_none)) (pa_cons (pe_op op_cat (pe_op op_cat (pe_slice sl_list (pv 6) po_none (po_some (pv 7))) (pe_lst (pa_cons (pv 8) pa_nil))) (pe_slice sl_list (pv 6) (po_some (pv 7)) po_none)) pa_nil)))))
        (pss_cons (ps_asg (pe_join pe_str (pe_ix ix_list (pv 9) (pv 3) (fun _ _ => rfl))) (pg_sub (pv 2) (pv 4) set_list))
        (pss_one (ps_ret (pe_join pe_str (pv 2)))))))) pss_nil)
        (pss_cons (ps_if (pt_cmpR op_eq (pv 3) pe_int (nomark _)) (pss_one (ps_ret (pe_join pe_str (pe_op op_cat (pe_op op_cat (pe_slice sl_list (pv 2) po_none (po_some (pv 4))) (pe_lst (pa_cons (pe_d D_one (hr.mono (by decide)) (pa_cons (pv 0) (pa_cons (pv 2) pa_nil))) pa_nil))) (pe_slice sl_list (pv 2) (po_some (pv 4)) po_none))))) pss_nil)
        (pss_cons (ps_set (i := 10) sc_spoilt_text.nd rfl (by first | exact Or.inl rfl | exact Or.inr rfl) (pe_d D_one (hr.mono (by decide)) (pa_cons (pv 0) (pa_cons (pe_lst (pa_cons pe_str (pa_cons pe_str (pa_cons pe_str (pa_cons pe_str (pa_cons pe_str (pa_cons pe_str pa_nil))))))) pa_nil))))
        (pss_one (ps_ret (pe_ifExp (pt_cmpR op_eq (pv 3) pe_int (nomark _)) (pe_op op_add_str (pe_slice sl_str (pv 1) po_none (po_some (pv 5))) (pe_slice sl_str (pv 1) (po_some (pe_op op_add (pv 5) pe_int)) po_none)) (pe_op op_add_str (pe_op op_add_str (pe_slice sl_str (pv 1) po_none (po_some (pv 5))) (pv 10)) (pe_slice sl_str (pv 1) (po_some (pv 5)) po_none)))))))))), ?_⟩
    refine ⟨_, rfl, ⟨_, rfl⟩, x, "\n", rfl, rfl, rfl, sz_of (by omega), fun lp nlp => ⟨_, rfl, st, c, 6, rfl, S.same (Ex.new nlp), by decide, by decide, fun way H2 w0 w6 S2 k2 => ⟨_, _, rfl, ?_⟩⟩⟩
    have hsp : Txt.split x "\n" = linesOf x := rfl
    rw [hsp] at k2
    have e1 := Ex.new nlp (o := .lst ((linesOf x).map V.str))
    have nls : lp ≠ st := (S.of_new nlp).1
    have nlc : lp ≠ c := (S.of_new nlp).2
    have hlp2 : H2 lp = some (.lst ((linesOf x).map V.str)) := k2 _ _ nls upd_same
    have k02 : Kp st H H2 := (Kp.of e1).trans k2
    have hlc := lines_count x
    have hl0 : 0 < (linesOf x).length := by
      cases h : linesOf x with
      | nil => exact absurd h (lines_ne x)
      | cons a b => simp
    refine ⟨_, rfl, _, rfl, lp, _, rfl, .inl (SqL.of hlp2), st, c, _, rfl, S2, by rw [List.length_map]; omega, by rw [List.length_map]; omega, fun kk H3 k0 k1 S3 k3 => ?_⟩
    obtain ⟨kn, rfl⟩ := Int.eq_ofNat_of_zero_le k0
    have hkn : kn < (linesOf x).length := by rw [List.length_map] at k1; omega
    refine ⟨_, rfl, _, rfl, x, rfl, sz_of (by omega), _, _, rfl, rfl, st, c, _, rfl, S3, by omega, by omega, fun an H4 a0 a1 S4 k4 => ⟨_, _, rfl, ?_⟩⟩
    obtain ⟨am, rfl⟩ := Int.eq_ofNat_of_zero_le a0
    have ham : am ≤ x.length := by omega
    have k04 := (k02.trans k3).trans k4
    have hlp4 : H4 lp = some (.lst ((linesOf x).map V.str)) := k4 _ _ nls (k3 _ _ nls hlp2)
    obtain ⟨wn, rfl⟩ := Int.eq_ofNat_of_zero_le w0
    show tSeq _ _ _ [some (.ref st), some (.str x), some (.ref lp), some (.int (wn : Nat)), some (.int (kn : Nat)), some (.int (am : Nat)), none, none, none, none, none] H4
    refine q_when (et_test (ev_op (ev_var rfl) ev_c rv_I0)) (fun hb H5 e5 => ?_) (fun hb H5 e5 => ?_)
    · have hw3 := of_decide_eq_true hb
      have S5 := S4.same e5
      have hlp5 := e5 _ _ hlp4
      have k05 := k04.trans (Kp.of e5)
      obtain ⟨ln, hln⟩ : ∃ ln, (linesOf x)[kn]? = some ln := ⟨_, List.getElem?_eq_getElem hkn⟩
      have hlnM : ln.length ≤ M := sg_lines hsg ln (List.mem_of_getElem? hln)
      refine ⟨_, rfl, _, rfl, lp, _, _, _, rfl, rfl, SqL.of hlp5, atI_nat (by rw [List.getElem?_map, hln]; rfl), ⟨_, rfl⟩, ln, " ", rfl, rfl, rfl, sz_of (by omega), fun wp nwp => ?_⟩
      have hsw : Txt.split ln " " = wordsOf ln := rfl
      rw [hsw]
      have e6 := Ex.new nwp (o := .lst ((wordsOf ln).map V.str))
      have hwp6 : (upd H5 wp (.lst ((wordsOf ln).map V.str))) wp = some (.lst ((wordsOf ln).map V.str)) := upd_same
      have S6 := S5.same e6
      have nws : wp ≠ st := (S5.of_new nwp).1
      have nwc : wp ≠ c := (S5.of_new nwp).2
      have hlp6 := e6 _ _ hlp5
      have k06 := k05.trans (Kp.of e6)
      generalize upd H5 wp (.lst ((wordsOf ln).map V.str)) = H6 at hwp6 S6 hlp6 k06
      have hwc := words_count ln
      have hw0 : 0 < (wordsOf ln).length := by
        cases h : wordsOf ln with
        | nil => exact absurd h (words_ne ln)
        | cons a b => simp
      show tSeq _ _ _ [some (.ref st), some (.str x), some (.ref lp), some (.int (wn : Nat)), some (.int (kn : Nat)), some (.int (am : Nat)), some (.ref wp), none, none, none, none] H6
      refine ⟨_, rfl, _, rfl, wp, _, rfl, .inl (SqL.of hwp6), st, c, _, rfl, S6, by rw [List.length_map]; omega, by rw [List.length_map]; omega, fun nn H7 n0 n1 S7 k7 => ?_⟩
      obtain ⟨nm, rfl⟩ := Int.eq_ofNat_of_zero_le n0
      refine ⟨_, rfl, by show 9 ≤ sizeLine; decide, fun mp nmp => ⟨st, c, mp, mores.map V.str, rfl, S7.same (Ex.new nmp), (S7.of_new nmp).1, .inl (SqL.of upd_same), by decide, by decide, fun mv H8 hmv S8 k8 => ⟨_, _, rfl, ?_⟩⟩⟩
      obtain ⟨mo, rfl, hmo⟩ := strs_of hmv
      have hml := mores_len mo hmo
      have e7 := Ex.new nmp (o := .lst (mores.map V.str))
      have k68 : Kp st H6 H8 := k7.trans ((Kp.of e7).trans k8)
      have hwp8 := k68 _ _ nws hwp6
      have hlp8 := k68 _ _ nls hlp6
      have k08 := k06.trans k68
      dsimp only
      have sT := el_slTo (K := K) (σ := [some (.ref st), some (.str x), some (.ref lp), some (.int (wn : Nat)), some (.int (kn : Nat)), some (.int (am : Nat)), some (.ref wp), some (.int (nm : Nat)), some (.str mo), none, none]) (H := H8) (te := tVar 6) (tn := tVar 7) (n := nm) (ev_var rfl) hwp8 (ev_var rfl)
      have sD := el_slFr (K := K) (σ := [some (.ref st), some (.str x), some (.ref lp), some (.int (wn : Nat)), some (.int (kn : Nat)), some (.int (am : Nat)), some (.ref wp), some (.int (nm : Nat)), some (.str mo), none, none]) (H := H8) (te := tVar 6) (tn := tVar 7) (n := nm) (ev_var rfl) hwp8 (ev_var rfl)
      have sD1 := el_slFr (K := K) (σ := [some (.ref st), some (.str x), some (.ref lp), some (.int (wn : Nat)), some (.int (kn : Nat)), some (.int (am : Nat)), some (.ref wp), some (.int (nm : Nat)), some (.str mo), none, none]) (H := H8) (te := tVar 6) (n := nm + 1) (ev_var rfl) hwp8 (ev_inc (i := 7) rfl)
      have s1 : EvL (tLst (tCons (tVar 8) tNil)) [some (.ref st), some (.str x), some (.ref lp), some (.int (wn : Nat)), some (.int (kn : Nat)), some (.int (am : Nat)), some (.ref wp), some (.int (nm : Nat)), some (.str mo), none, none] H8 (([mo] : List Str).map V.str) := el_lst (ea_cons (ev_var rfl) ea_nil) (by show 1 ≤ 100000; decide)
      have hlT : ((wordsOf ln).take nm).length ≤ 101 := by rw [List.length_take]; omega
      have hlD : ∀ j, ((wordsOf ln).drop j).length ≤ 101 := fun j => by rw [List.length_drop]; omega
      have h1l : ([mo] : List Str).length = 1 := rfl
      have c1 := el_catS sT s1 (by rw [h1l]; omega)
      have hlc : (((wordsOf ln).take nm) ++ [mo]).length ≤ 102 := by rw [List.length_append, h1l]; omega
      have bnd : ∀ W ∈ wsel (wordsOf ln) nm mo, W.length ≤ 300 := fun W hW => by
        have := wsel_wgt hml W hW
        have h2 := wgt_words ln
        unfold wgt at this h2
        omega
      have el3 : EvS _ _ H8 3 (.l ((wsel (wordsOf ln) nm mo).map fun W => .l ((W.map V.str).map .v))) := es_lst (es_cons (es_ofL (el_catS sT sD1 (by have := hlD (nm + 1); omega)) (by rw [List.length_map, List.length_append]; have := hlD (nm + 1); omega) (strs_flt _))
        (es_cons (es_ofL (el_catS c1 sD1 (by have := hlD (nm + 1); omega)) (by rw [List.length_map, List.length_append]; have := hlD (nm + 1); omega) (strs_flt _))
        (es_cons (es_ofL (el_catS c1 sD (by have := hlD nm; omega)) (by rw [List.length_map, List.length_append]; have := hlD nm; omega) (strs_flt _)) es_nil))) (by show 3 ≤ 40000; decide)
      refine q_asgS el3 fun sv H9 e9 r9 => ?_
      obtain ⟨sa, sx, rfl, _, hsa, hsl, _, hsx⟩ := r9
      have hsl3 : sx.length = 3 := hsl
      have hlp9 := e9 _ _ hlp8
      have k09 := k08.trans (Kp.of e9)
      have S9 := S8.same e9
      have hwn : wn < 3 := by omega
      obtain ⟨W, hW⟩ : ∃ W, (wsel (wordsOf ln) nm mo)[wn]? = some W := ⟨_, List.getElem?_eq_getElem (by show wn < 3; exact hwn)⟩
      have hWm := List.mem_of_getElem? hW
      obtain ⟨sv, hsv⟩ : ∃ sv, sx[wn]? = some sv := ⟨_, List.getElem?_eq_getElem (by omega)⟩
      obtain ⟨jp, rfl, hjp⟩ := repL_inv (k := 0) (hsx wn sv _ hsv (by rw [List.getElem?_map, hW]; rfl))
      have hWw := wsel_wgt hml W hWm
      have hWl := bnd W hWm
      have hy1 : (Txt.join " " W).length ≤ ln.length + 6 := by
        have := join_wgt1 (y := " ") rfl W
        have := wgt_words ln
        omega
      have hjz : (W.map (·.length)).sum + W.length * (" " : Str).length ≤ 16777216 := by
        have h1 : (" " : Str).length = 1 := rfl
        have h2 := wgt_words ln
        unfold wgt at hWw h2
        rw [h1]
        omega
      have evj : Ev (tM1 (rJoin K) (tC (.str " ")) (tOp (rIxL K) (tVar 9) (tVar 3))) [some (.ref st), some (.str x), some (.ref lp), some (.int (wn : Nat)), some (.int (kn : Nat)), some (.int (am : Nat)), some (.ref wp), some (.int (nm : Nat)), some (.str mo), some (.ref sa), none] H9 (.str (Txt.join " " W)) :=
        ev_joinL ev_c (fun H1 e1 => ev_op (ev_var rfl) (ev_var rfl) (rv_ixL (SqL.of (e1 _ _ hsa)) (atI_nat hsv))) hjp hjz
      refine q_setL (j := kn) hlp9 evj (ev_var rfl) (ev_var rfl) (by rw [List.length_map]; exact hkn) fun H10 e10 => ?_
      have hset : ((linesOf x).map V.str).set kn (.str (Txt.join " " W)) = ((linesOf x).set kn (Txt.join " " W)).map V.str := by rw [List.map_set]
      rw [hset]
      have hwl := wgt_lines x
      have hwset := wgt_set (linesOf x) kn (Txt.join " " W)
      have hfin : (((linesOf x).set kn (Txt.join " " W)).map (·.length)).sum + ((linesOf x).set kn (Txt.join " " W)).length * ("\n" : Str).length ≤ 16777216 := by
        have h1 : ("\n" : Str).length = 1 := rfl
        unfold wgt at hwl hwset
        rw [h1]
        omega
      have S11 : StAt (upd H10 lp (.lst (((linesOf x).set kn (Txt.join " " W)).map V.str))) st c := (S9.same e10).mut nls nlc
      have k11 : Kp st H (upd H10 lp (.lst (((linesOf x).set kn (Txt.join " " W)).map V.str))) := Kp.mut (k09.trans (Kp.of e10)) nlp
      refine s_ret (ev_joinL ev_c (fun H1 e1 => ev_var rfl) upd_same hfin) fun H12 e12 => k _ H12 ?_ ?_ (S11.same e12) (k11.trans (Kp.of e12))
      · refine (sg_joinS (M := M + 6) fun p hp => ?_).mono (by omega)
        rcases List.mem_or_eq_of_mem_set hp with h | h
        · have := sg_lines hsg p h; omega
        · rw [h]; omega
      · have := join_wgt1 (y := "\n") rfl ((linesOf x).set kn (Txt.join " " W))
        omega
    have hwn3 : ¬ wn < 3 := fun z => by rw [decide_eq_true (by omega : ((wn : Nat) : Int) < 3)] at hb; cases hb
    have S5 := S4.same e5
    have hlp5 := e5 _ _ hlp4
    have k05 := k04.trans (Kp.of e5)
    have et3 : EvT (tTest (tOp rEq (tVar 3) (tC (.int 3)))) [some (.ref st), some (.str x), some (.ref lp), some (.int (wn : Nat)), some (.int (kn : Nat)), some (.int (am : Nat)), none, none, none, none, none] H5 (decide (wn = 3)) := by
      refine et_is (et_test (ev_op (ev_var (v := .int (wn : Nat)) rfl) ev_c (rv_eq rfl))) ?_
      have : (V.int (wn : Nat) = V.int 3) = (wn = 3) := propext ⟨fun z => by have := V.int.inj z; omega, fun z => by rw [z]; rfl⟩
      simp only [this]
    refine q_when et3 (fun hb H6 e6 => ?_) (fun hb H6 e6 => ?_)
    · have S6 := S5.same e6
      have hlp6 := e6 _ _ hlp5
      have k06 := k05.trans (Kp.of e6)
      have sT := el_slTo (K := K) (σ := [some (.ref st), some (.str x), some (.ref lp), some (.int (wn : Nat)), some (.int (kn : Nat)), some (.int (am : Nat)), none, none, none, none, none]) (H := H6) (te := tVar 2) (tn := tVar 4) (n := kn) (ev_var rfl) hlp6 (ev_var rfl)
      refine ⟨⟨_, rfl⟩, sT H6 (Ex.refl _) _ fun tp H7 ntp e7 htp => ?_⟩
      have S7 := S6.same e7
      have hlp7 := e7 _ _ hlp6
      have nts : tp ≠ st := (S6.of_new ntp).1
      refine ⟨_, rfl, _, rfl, st, c, lp, _, rfl, S7, nls, .inl (SqL.of hlp7), by rw [List.length_map]; exact hl0, by rw [List.length_map]; omega, fun lv H8 hlv S8 k8 => ?_⟩
      obtain ⟨li, rfl, hli⟩ := strs_of hlv
      have hliM : li.length ≤ M := sg_lines hsg li hli
      have htp8 := k8 _ _ nts htp
      have hlp8 := k8 _ _ nls hlp7
      have k08 := (k06.trans (Kp.of e7)).trans k8
      have hkl : ((linesOf x).take kn).length ≤ 5001 := by rw [List.length_take]; omega
      have hdl : ((linesOf x).drop kn).length ≤ 5001 := by rw [List.length_drop]; omega
      refine ⟨by show 1 ≤ sizeLine; decide, fun op nop => ?_⟩
      have e9 := Ex.new nop (o := .lst [.str li])
      refine ⟨tp, op, _, _, rfl, rfl, e9 _ _ htp8, upd_same, sz_of (by rw [List.length_map, List.length_singleton]; omega), fun cp ncp => ?_⟩
      have e10 := Ex.trans e9 (Ex.new ncp (o := .lst (((linesOf x).take kn).map V.str ++ [.str li])))
      have hcp : (upd (upd H8 op (.lst [.str li])) cp (.lst (((linesOf x).take kn).map V.str ++ [.str li]))) cp = some (.lst (((linesOf x).take kn).map V.str ++ [.str li])) := upd_same
      generalize upd (upd H8 op (.lst [.str li])) cp (.lst (((linesOf x).take kn).map V.str ++ [.str li])) = H10 at e10 hcp
      have S10 := S8.same e10
      have hlp10 := e10 _ _ hlp8
      have sD := el_slFr (K := K) (σ := [some (.ref st), some (.str x), some (.ref lp), some (.int (wn : Nat)), some (.int (kn : Nat)), some (.int (am : Nat)), none, none, none, none, none]) (H := H10) (te := tVar 2) (tn := tVar 4) (n := kn) (ev_var rfl) hlp10 (ev_var rfl)
      refine sD H10 (Ex.refl _) _ fun dp H11 ndp e11 hdp => ?_
      have hcp11 := e11 _ _ hcp
      refine ⟨cp, dp, _, _, rfl, rfl, hcp11, hdp, sz_of (by simp only [List.length_map, List.length_append, List.length_singleton]; omega), fun fp nfp => ?_⟩
      have e12 := Ex.new nfp (o := .lst ((((linesOf x).take kn).map V.str ++ [.str li]) ++ ((linesOf x).drop kn).map V.str))
      have hlist : (((linesOf x).take kn).map V.str ++ [.str li]) ++ ((linesOf x).drop kn).map V.str = (((linesOf x).take kn ++ [li]) ++ (linesOf x).drop kn).map V.str := by simp
      have hwl := wgt_lines x
      have hwc := wgt_cut (linesOf x) kn
      have hw1 := wgt_one li
      have hwt : wgt (((linesOf x).take kn ++ [li]) ++ (linesOf x).drop kn) = x.length + 1 + (li.length + 1) := by rw [wgt_app, wgt_app]; omega
      refine ⟨"\n", fp, ((linesOf x).take kn ++ [li]) ++ (linesOf x).drop kn, rfl, rfl, .inl (SqL.of (by rw [upd_same, hlist])), ?_, k _ _ ?_ ?_ ((S10.same e11).same e12) (k08.trans (Kp.of (Ex.trans e10 (Ex.trans e11 e12))))⟩
      · have h1 : ("\n" : Str).length = 1 := rfl
        unfold wgt at hwt
        rw [h1]
        omega
      · refine (sg_joinS (M := M) fun p hp => ?_).mono (by omega)
        rcases List.mem_append.mp hp with h | h
        · rcases List.mem_append.mp h with h | h
          · exact sg_lines hsg p (List.mem_of_mem_take h)
          · rw [List.mem_singleton.mp h]; exact hliM
        · exact sg_lines hsg p (List.mem_of_mem_drop h)
      · have := join_wgt1 (y := "\n") rfl (((linesOf x).take kn ++ [li]) ++ (linesOf x).drop kn)
        omega
    · have hwn4 : wn ≠ 3 := of_decide_eq_false hb
      have S6 := S5.same e6
      have k06 := k05.trans (Kp.of e6)
      refine ⟨_, rfl, by show 6 ≤ sizeLine; decide, fun gp ngp => ⟨st, c, gp, signs6.map V.str, rfl, S6.same (Ex.new ngp), (S6.of_new ngp).1, .inl (SqL.of upd_same), by decide, by decide, fun gv H8 hgv S8 k8 => ?_⟩⟩
      obtain ⟨gs, rfl, hgs⟩ := strs_of hgv
      have hgl := signs6_len gs hgs
      have k08 := k06.trans ((Kp.of (Ex.new ngp (o := .lst (signs6.map V.str)))).trans k8)
      have et4 : EvT (tTest (tOp rEq (tVar 3) (tC (.int 4)))) [some (.ref st), some (.str x), some (.ref lp), some (.int (wn : Nat)), some (.int (kn : Nat)), some (.int (am : Nat)), none, none, none, none, some (.str gs)] H8 (decide (wn = 4)) := by
        refine et_is (et_test (ev_op (ev_var (v := .int (wn : Nat)) rfl) ev_c (rv_eq rfl))) ?_
        have : (V.int (wn : Nat) = V.int 4) = (wn = 4) := propext ⟨fun z => by have := V.int.inj z; omega, fun z => by rw [z]; rfl⟩
        simp only [this]
      have lto : (cutS x none (some (am : Int))).length ≤ x.length := by rw [len_tl, tl_cutTo, List.length_take, ← len_tl]; omega
      have lfr : ∀ j : Nat, (cutS x (some (j : Int)) none).length = x.length - j := fun j => by rw [len_tl, tl_cutFr, List.length_drop, ← len_tl]
      have lto1 : (cutS x none (some (am : Int))).length = am := by rw [len_tl, tl_cutTo, List.length_take, ← len_tl]; omega
      refine r_if et4 (fun hb H9 e9 => ?_) (fun hb H9 e9 => ?_)
      · refine ev_addS (σ := [some (.ref st), some (.str x), some (.ref lp), some (.int (wn : Nat)), some (.int (kn : Nat)), some (.int (am : Nat)), none, none, none, none, some (.str gs)]) (H := H9) (ev_slS (z := x) (ev_var rfl) eo_none (eo_some (i := (am : Nat)) (ev_var rfl)) (by omega)) (ev_slS (z := x) (ev_var rfl) (eo_some (i := ((am + 1 : Nat) : Int)) (ev_inc rfl)) eo_none (by omega)) (by rw [lto1, lfr]; omega) H9 (Ex.refl _) _ fun H10 e10 => k _ H10 ?_ ?_ ((S8.same e9).same e10) (k08.trans (Kp.of (Ex.trans e9 e10)))
        · rw [tl_app, tl_cutTo, tl_cutFr]
          exact (sg_app (sg_take hsg) (sg_drop hsg)).mono (by omega)
        · rw [len_app, lto1, lfr]
          omega
      · refine ev_addS (σ := [some (.ref st), some (.str x), some (.ref lp), some (.int (wn : Nat)), some (.int (kn : Nat)), some (.int (am : Nat)), none, none, none, none, some (.str gs)]) (H := H9) (ev_addS (ev_slS (z := x) (ev_var rfl) eo_none (eo_some (i := (am : Nat)) (ev_var rfl)) (by omega)) (ev_var rfl) (by omega)) (ev_slS (z := x) (ev_var rfl) (eo_some (i := (am : Nat)) (ev_var rfl)) eo_none (by omega)) (by rw [len_app, lto1, lfr]; omega) H9 (Ex.refl _) _ fun H10 e10 => k _ H10 ?_ ?_ ((S8.same e9).same e10) (k08.trans (Kp.of (Ex.trans e9 e10)))
        · rw [tl_app, tl_app, tl_cutTo, tl_cutFr]
          exact (sg_app (sg_app (sg_take hsg) (sg_short (M := 1) (by rw [← len_tl]; exact hgl))) (sg_drop hsg)).mono (by omega)
        · rw [len_app, len_app, lto1, lfr]
          omega
end
end Lm

namespace Lm
open PySem L2 Evl RZ TL
/-! ### texts of drawn deeds -/
theorem lnD_len {d : Deed} (h : DrawOk d) : (lnD d).length ≤ 20 := by
  have hk : d.1.length ≤ 4 := by
    have : ∀ k ∈ kindsS, k.length ≤ 4 := by decide +kernel
    exact this _ h.ok.k
  have hn : d.2.length ≤ 2 := by rw [h.ok.n]; unfold cntOf; split <;> omega
  have h1 := joinL_len1 32 (ps := (d.1 :: d.2.map dstr).map tl) (by simp)
  have e : (lnD d).length = (joinL [32] ((d.1 :: d.2.map dstr).map tl)).length := by
    unfold lnD
    rw [len_tl, join_eq, tl_join, tl_sp]
  have h2 := sum_le (l := ((d.2.map dstr).map tl).map List.length) (m := 7) fun x hx => by
    obtain ⟨y, hy, rfl⟩ := List.mem_map.mp hx
    obtain ⟨z, hz, rfl⟩ := List.mem_map.mp hy
    obtain ⟨n, hn', rfl⟩ := List.mem_map.mp hz
    rw [tl_dstr]
    exact numL_len (by decide) (by have := h.b n hn'; omega)
  simp only [List.map_cons, List.sum_cons, List.length_cons, List.length_map] at h1 h2 e
  rw [← len_tl] at h1
  omega
theorem app_nil (x : Str) : x ++ ("" : Str) = x := by
  refine ext_tl ?_
  have : tl ("" : Str) = [] := by decide +kernel
  rw [tl_app, this, List.append_nil]
theorem text_lines {ds : List Deed} {r : Str} (hd : ∀ d ∈ ds, DeedOk d) (hr : 10 ∉ tl r) : headL (textOf ds ++ r) = ds.map lnD ∧ lastL (textOf ds ++ r) = r := by
  have h1 := lines_text (ds := ds) (r := r) (fun d h => lnD_free (hd d h)) hr
  have h2 := lines_eq (textOf ds ++ r)
  unfold textOf at h2 ⊢
  rw [h1] at h2
  have := List.append_inj' h2 rfl
  exact ⟨this.1.symm, (List.cons.inj this.2).1.symm⟩
theorem text_pre {ds : List Deed} {r : Str} (hd : ∀ d ∈ ds, DeedOk d) (hr : 10 ∉ tl r) : ∀ j < ds.length, ∀ z, (fullL (textOf ds ++ r))[j]? = some z → (outOf z.1 z.2).isNone = false := fun j hj z hz => by
  have h1 := (text_lines hd hr).1
  obtain ⟨d, hdj⟩ : ∃ d, ds[j]? = some d := ⟨_, List.getElem?_eq_getElem hj⟩
  have h2 := full_head (x := textOf ds ++ r) (i := j) (l := lnD d) (by rw [h1, List.getElem?_map, hdj]; rfl)
  rw [h2] at hz
  cases hz
  show (deedL (lnD d)).isNone = false
  rw [show deedL (lnD d) = some d from deedL_line (hd d (List.mem_of_getElem? hdj))]
  rfl
theorem text_bad {ds : List Deed} {r : Str} (hd : ∀ d ∈ ds, DeedOk d) (hr : 10 ∉ tl r) (h0 : r ≠ "") : badAt (textOf ds ++ r) = some ds.length := by
  have hl := text_lines hd hr
  have h3 := full_last (x := textOf ds ++ r) (by rw [hl.2]; exact h0)
  rw [hl.1, List.length_map] at h3
  exact findIdx_pre (text_pre hd hr) h3 rfl
theorem text_told {ds : List Deed} (hd : ∀ d ∈ ds, DeedOk d) : badAt (textOf ds) = none ∧ deedsOf (textOf ds) = ds := by
  have h0 : 10 ∉ tl ("" : Str) := by decide +kernel
  have hl := text_lines hd h0
  have hp := text_pre hd h0
  rw [app_nil] at hl hp
  constructor
  · unfold badAt
    rw [List.findIdx?_eq_none_iff]
    intro z hz
    obtain ⟨j, hj⟩ := List.mem_iff_getElem?.mp hz
    refine hp j ?_ z hj
    have := (List.getElem?_eq_some_iff.mp hj).1
    rw [full_nl hl.2, List.length_map, hl.1, List.length_map] at this
    exact this
  · rw [deedsOf_nl hl.2, hl.1, List.filterMap_map]
    have : ∀ l : List Deed, (∀ d ∈ l, DeedOk d) → l.filterMap (deedL ∘ lnD) = l := by
      intro l
      induction l with
      | nil => intro _; rfl
      | cons a b ih =>
        intro h
        rw [List.filterMap_cons, show (deedL ∘ lnD) a = some a from deedL_line (h a (by simp)), ih fun d hd => h d (by simp [hd])]
    exact this ds hd
theorem text_len {ds : List Deed} (hd : ∀ d ∈ ds, (lnD d).length ≤ 20) : (textOf ds).length ≤ ds.length * 21 := by
  unfold textOf
  rw [len_tl, tl_text]
  induction ds with
  | nil => simp
  | cons a b ih =>
    have h1 := hd a (by simp)
    have h2 := ih fun d h => hd d (by simp [h])
    rw [len_tl] at h1
    simp only [List.map_cons, List.flatten_cons, List.length_append, List.length_cons, List.length_nil] at h2 ⊢
    omega
theorem txok_of {M : Nat} {x : Str} (h : SgB M (tl x)) (hM : M ≤ 100) (hl : x.length ≤ 10000) : TxOk x := ⟨hl, fun l h' => Nat.le_trans (sg_lines h l h') hM⟩
def nine : List Str := ["", "\n", "give 0\n\n", "give  0\n", "give 3\n", "read 0 01\n", "anew 0 1\n", "read 0\n", " give 0\n"]
theorem nine_of : ∀ x ∈ nine, x.length ≤ 20 ∧ ((x = "" ∧ badAt x = none ∧ deedsOf x = []) ∨ (x ≠ "" ∧ badAt x = some (if cutS x none (some 7) = "give 0\n" then 1 else 0))) := by decide +kernel
theorem last_two : textOf [(("read", [0, 5]) : Deed), ("jump", [2, 0])] = "read 0 5\njump 2 0\n" := by decide +kernel
theorem line_1 : lineOf ("read", [0, 1000000]) = "read 0 1000000\n" := by decide +kernel
def deed1 : Deed := ("read", [0, 1000000])
theorem draw_1 : DeedOk deed1 := ⟨by decide +kernel, by decide +kernel, by decide⟩
theorem draw_5 : DeedOk ("read", [0, 5]) := ⟨by decide +kernel, by decide +kernel, by decide⟩
theorem draw_2 : DeedOk ("jump", [2, 0]) := ⟨by decide +kernel, by decide +kernel, by decide⟩
theorem many_text : repS "read 0 1000000\n" 250 = textOf (List.replicate 250 deed1) := by
  refine ext_tl ?_
  unfold textOf
  rw [tl_repS, tl_text, List.map_replicate, ← tl_lnD, show lineOf deed1 = "read 0 1000000\n" from line_1]
section
variable {K : PySem.W.Frag} {σ : L2.St} {H : Hp} {te ta tb : TE} {d : Nat} {s : Sh} {x : Str}
theorem er_up (h : EvR te σ H d s) : EvR te σ H (d + 1) s := fun H1 e Q q => h H1 e _ fun v H2 e2 r => q v H2 e2 r.up
theorem er_is {s' : Sh} (h : EvR te σ H d s) (e : s = s') : EvR te σ H d s' := e ▸ h
theorem EvR.mono {H' : Hp} (e : Ex H H') (h : EvR te σ H d s) : EvR te σ H' d s := fun H1 a Q q => h H1 (Ex.trans e a) Q q
theorem er_out (h : ∀ H1, Ex H H1 → Ev te σ H1 (.str x)) (hx : TxOk x) : EvR (tCall spOut [] E0 (tCons te tNil)) σ H 4 (outSh x) := fun H1 e Q q => h H1 e H1 (Ex.refl _) _ fun H2 e2 => ⟨x, rfl, hx, fun v H3 e3 r => q v H3 (Ex.trans e2 e3) r⟩
theorem er_s (h : Ev te σ H (.str x)) : EvR te σ H (d + 1) (.v (.str x)) := (es_s h).r
theorem er_i {i : Int} (h : Ev te σ H (.int i)) : EvR te σ H (d + 1) (.v (.int i)) := (es_i h).r
theorem er_if {t : TT} {b : Bool} (h : EvT t σ H b) (h1 : b = true → EvR ta σ H d s) (h2 : b = false → EvR tb σ H d s) : EvR (tIf t ta tb) σ H d s := fun H1 e Q q => h H1 e _ fun H2 e2 => by
  cases b with
  | true => exact h1 rfl H2 (Ex.trans e e2) _ fun v H3 e3 r => q v H3 (Ex.trans e2 e3) r
  | false => exact h2 rfl H2 (Ex.trans e e2) _ fun v H3 e3 r => q v H3 (Ex.trans e2 e3) r
/-- the law's own text of deeds -/
theorem ev_due {p : Addr} {xs : List V} {ds : List Deed} {i j n : Nat} (hi : σ[n]? = some (some (.ref p))) (hp : H p = some (.lst xs)) (hD : DeedsT H xs ds) (hl : ds.length ≤ 1000) (hs : ∀ d ∈ ds, DSm d) (h1 : ∀ x, ((wipe σ [i]).set i (some x))[i]? = some (some x)) (hn : ∀ y : V, (wipe σ [i])[n]? = some (some (.ref p)))
    (h2 : ∀ x y, ((wipe ((wipe σ [i]).set i (some x)) [j]).set j (some y))[j]? = some (some y)) : Ev (tM1 (rJoin K) (tC (.str "")) (tLc (iList K (tVar n)) (gName i) tYes (tOp rAddS (tM1 (rJoin K) (tC (.str " ")) (tLc (iTup K (tVar i)) (gName j) tYes (tCB rStrO (tCons (tVar j) tNil)) [j])) (tC (.str "\n"))) [i])) σ H (.str (textOf ds)) := fun H1 e1 Q q => by
  refine ⟨⟨_, rfl⟩, ?_⟩
  have hzip : xs = (xs.zip ds).map fun z => z.1 := by rw [List.map_fst_zip (by rw [hD.1]; exact Nat.le_refl _)]
  have hln : (xs.zip ds).map (fun z => V.str (lineOf z.2)) = (ds.map lineOf).map V.str := by
    rw [List.map_map]
    have : (xs.zip ds).map (fun z => V.str (lineOf z.2)) = ((xs.zip ds).map fun z => z.2).map (V.str ∘ lineOf) := by rw [List.map_map]; rfl
    rw [this, List.map_snd_zip (by rw [hD.1]; exact Nat.le_refl _)]
  have mp := el_mapL (K := K) (σ := σ) (H := H1) (te := tOp rAddS (tM1 (rJoin K) (tC (.str " ")) (tLc (iTup K (tVar i)) (gName j) tYes (tCB rStrO (tCons (tVar j) tNil)) [j])) (tC (.str "\n"))) (tl := tVar n) (l := xs.zip ds) (f := fun z => z.1) (g := fun z => V.str (lineOf z.2)) (j := i) (ev_var hi) (by rw [← hzip]; exact e1 _ _ hp) (by rw [List.length_zip, hD.1]; simp; omega) fun z hz H2 e2 => by
    obtain ⟨k, hk⟩ := List.mem_iff_getElem?.mp hz
    obtain ⟨g1, g2⟩ := List.getElem?_zip_eq_some.mp hk
    obtain ⟨a, ha, hq⟩ := hD.2 k _ _ g1 g2
    have hsm := hs z.2 (List.mem_of_getElem? g2)
    have hq2 := Ex.trans e1 e2 _ _ hq
    rw [ha]
    refine ev_addS (a := Txt.join " " (z.2.1 :: z.2.2.map dstr)) (b := "\n") (fun H3 e3 Q q => ?_) ev_c ?_
    · refine ⟨⟨_, rfl⟩, ?_⟩
      have mi := el_mapT (K := K) (σ := (wipe σ [i]).set i (some (.ref a))) (H := H3) (te := tCB rStrO (tCons (tVar j) tNil)) (tl := tVar i) (l := (Sum.inl z.2.1 :: z.2.2.map Sum.inr : List (Str ⊕ Nat))) (f := fun z => match z with | .inl s => V.str s | .inr n => V.int (n : Int)) (g := fun z => match z with | .inl s => V.str s | .inr n => V.str (dstr n)) (j := j) (ev_var (h1 _)) (by
          have e : (Sum.inl z.2.1 :: z.2.2.map Sum.inr : List (Str ⊕ Nat)).map (fun z => match z with | .inl s => V.str s | .inr n => V.int (n : Int)) = V.str z.2.1 :: intsV z.2.2 := by
            rw [List.map_cons, List.map_map]
            rfl
          rw [e]
          exact e3 _ _ hq2) (by have := hsm.n; simp; omega) fun y hy H4 e4 H5 e5 Q2 q2 => by
            rcases List.mem_cons.mp hy with rfl | hy
            · exact ⟨_, h2 _ _, .inr ⟨_, rfl, q2 H5 (Ex.refl _)⟩⟩
            · obtain ⟨m, hm, rfl⟩ := List.mem_map.mp hy
              exact ⟨_, h2 _ _, .inl ⟨(m : Int), rfl, lg_ok (hsm.b m hm), q2 H5 (Ex.refl _)⟩⟩
      have e2' : (Sum.inl z.2.1 :: z.2.2.map Sum.inr : List (Str ⊕ Nat)).map (fun z => match z with | .inl s => V.str s | .inr n => V.str (dstr n)) = (z.2.1 :: z.2.2.map dstr).map V.str := by
        rw [List.map_cons, List.map_map, List.map_cons, List.map_map]
        rfl
      rw [e2'] at mi
      refine mi H3 (Ex.refl _) _ fun D H4 nD e4 hD4 => ?_
      have hsz := line_size hsm.k hsm.n hsm.b
      exact ⟨" ", D, _, rfl, rfl, .inl (SqL.of hD4), by omega, q H4 e4⟩
    · have h1 := join_len " " (z.2.1 :: z.2.2.map dstr)
      have hsz := line_size hsm.k hsm.n hsm.b
      have : ("\n" : Str).length = 1 := rfl
      omega
  rw [hln] at mp
  refine mp H1 (Ex.refl _) _ fun D H2 nD e2 hD2 => ?_
  refine ⟨"", D, ds.map lineOf, rfl, rfl, .inl (SqL.of hD2), ?_, q H2 e2⟩
  have h1 := sum_le (l := (ds.map lineOf).map (·.length)) (m := 2201) fun n hn => by
    obtain ⟨y, hy, rfl⟩ := List.mem_map.mp hn
    obtain ⟨d, hd, rfl⟩ := List.mem_map.mp hy
    exact lineOf_len (hs d hd)
  rw [List.length_map, List.length_map] at h1
  have h2 : ("" : Str).length = 0 := rfl
  rw [List.length_map, h2]
  have := Nat.mul_le_mul_right 2201 hl
  omega
end
end Lm

namespace Lm
open PySem L2 Evl RZ TL
def spLaw (K : PySem.W.Frag) : Sp := fun vs H Q _ => ∃ (a : Addr) (ns : List Int), vs = [.ref a] ∧ SqL K H a (ns.map V.int) ∧ ns.length ≤ 63 ∧ ∀ H', Q (.bl true) H'
theorem Fun.kone0 {K : PySem.W.Frag} {x qual : Str} {st : Stmt} {f : Addr} {fd : FuncData} {ps : List Str} {k1 : Str} (F : L2.Fun K x qual st f fd)
    (h : ∀ (kV doc pm : Value) (an : Option Addr) (cdv ct : Value) (b : Value), bindArgs (PySem.W.fnOf x qual (defArgs st) (defBody st) (defScope st) .none kV doc pm an cdv ct) ⟨[], [(k1, b)]⟩ = pure (ps.zip [b])) : KBn K fd ps 0 [k1] oneR oneR := by
  obtain ⟨oc, od, kV, doc, pm, an, cdv, ct, osl, rfl, lk, hcd⟩ := F.ex
  refine ⟨fun s us ws X l1 l2 => ?_, fun r1 r2 => vals_app r1 r2⟩
  match us, ws, l1, l2 with
  | [], [b], _, _ => exact .of_eq (h kV doc pm an cdv ct b)
theorem DrawOk.sm {d : Deed} (h : DrawOk d) : DSm d := ⟨by
  have : ∀ k ∈ kindsS, k.length ≤ 4 := by decide +kernel
  have := this _ h.ok.k
  omega, by
  rw [h.ok.n]; unfold cntOf; split <;> decide, fun n hn => Nat.lt_of_le_of_lt (h.b n hn) (by decide +kernel)⟩
section
variable {P : Program} {w : World} {K : PySem.W.Frag} {mg : Str → Option Value} {base : Heap} {f : Addr} {fd : FuncData}
def EvLD (te : TE) (σ : L2.St) (H : Hp) (ds : List Deed) : Prop := ∀ H1, Ex H H1 → ∀ Q : VK, (∀ r xs H2, H1 r = none → Ex H1 H2 → H2 r = some (.lst xs) → DeedsT H2 xs ds → Q (.ref r) H2) → te σ H1 Q
section
variable {σ : L2.St} {H : Hp} {ds : List Deed}
theorem eld_if {t : TT} {ta tb : TE} {b : Bool} (h : EvT t σ H b) (h1 : EvLD ta σ H ds) (h2 : EvLD tb σ H ds) : EvLD (tIf t ta tb) σ H ds := fun H1 e Q q => h H1 e _ fun H2 e2 => by
  cases b with
  | true => exact h1 H2 (Ex.trans e e2) _ fun r xs H3 nr e3 h3 hD => q r xs H3 (fresh_back e2 nr) (Ex.trans e2 e3) h3 hD
  | false => exact h2 H2 (Ex.trans e e2) _ fun r xs H3 nr e3 h3 hD => q r xs H3 (fresh_back e2 nr) (Ex.trans e2 e3) h3 hD
theorem q_asgLD {te : TE} {tz : TS} {D : Ends} {i : Nat} (h : EvLD te σ H ds) (k : ∀ r xs H2, H r = none → Ex H H2 → H2 r = some (.lst xs) → DeedsT H2 xs ds → tz D (σ.set i (some (.ref r))) H2) : tSeq (tAsg te (gName i)) tz D σ H := h H (Ex.refl _) _ k
theorem read_told {CB : Addr} {E : XK} {Q : VK} (hd : ∀ d ∈ ds, DrawOk d) (hl : ds.length ≤ 20) (q : ∀ r xs H2, H r = none → Ex H H2 → H2 r = some (.lst xs) → DeedsT H2 xs ds → Q (.ref r) H2) : spRead CB [.str (textOf ds)] H Q E := by
  have ht := text_told fun d h => (hd d h).ok
  have hsg : SgB 20 (tl (textOf ds)) := by
    have := sg_text (M := 20) (ds := ds) (r := "") (fun d h => lnD_len (hd d h)) (by decide +kernel)
    have e : Txt.join "" (ds.map lineOf) ++ ("" : Str) = textOf ds := app_nil _
    rw [e] at this
    exact this
  refine ⟨textOf ds, rfl, txok_of hsg (by decide) (by have := text_len (ds := ds) fun d h => lnD_len (hd d h); omega), fun _ p xs H' np e h hD => ?_, fun n hb => ?_⟩
  · rw [ht.2] at hD
    exact q p xs H' np e h hD
  · rw [ht.1] at hb
    cases hb
end
theorem sg_draw {ds : List Deed} {r : Str} (hd : ∀ d ∈ ds, DrawOk d) (hr : r.length ≤ 20) : SgB 20 (tl (textOf ds ++ r)) := sg_text (M := 20) (ds := ds) (r := r) (fun d h => lnD_len (hd d h)) hr
theorem er_pair {σ : L2.St} {H : Hp} {x : Str} {i : Nat} (hi : σ[i]? = some (some (.str x))) (hx : TxOk x) : Ev (tCall (spSame 5) [] E0 (tCons (tLst (tCons (tCall spOut [] E0 (tCons (tVar i) tNil)) (tCons (tCall spOut [] E0 (tCons (tVar i) tNil)) tNil))) (tCons (tOp rRep (tLst (tCons (tCall spOut [] E0 (tCons (tVar i) tNil)) tNil)) (tC (.int 2))) tNil))) σ H (.bl true) := by
  have eo : EvR (tCall spOut [] E0 (tCons (tVar i) tNil)) σ H 4 (outSh x) := er_out (fun H1 e => ev_var hi) hx
  exact ev_sameR (d := 5) (s := .l [outSh x, outSh x]) (er_lst (er_cons eo (er_cons eo er_nil)) (by show 2 ≤ 40000; decide)) (er_is (er_rep (n := 2) (er_lst (er_cons eo er_nil) (by show 1 ≤ 40000; decide)) (fun H1 e => ev_c) (by show 1 * 2 ≤ 40000; decide) (by decide)) rfl)
theorem e10 : ((10 : Int) ^ (6 : Int).toNat) = ((1000000 : Nat) : Int) := by decide
theorem ev_pow {σ : L2.St} {H : Hp} : Ev (tOp (rI CPow fun i j => .int (i ^ j.toNat)) (tC (.int 10)) (tC (.int 6))) σ H (.int ((1000000 : Nat) : Int)) := fun H1 e Q q => ⟨10, 6, rfl, rfl, ⟨by decide, by decide, by decide⟩, by
  show Q (.int ((10 : Int) ^ (6 : Int).toNat)) H1
  rw [e10]
  exact q H1 (Ex.refl _)⟩
theorem ev_mulS {σ : L2.St} {H : Hp} : Ev (tOp rMulS (tC (.str "read 0 1000000\n")) (tC (.int 250))) σ H (.str (textOf (List.replicate 250 deed1))) := fun H1 e Q q => ⟨"read 0 1000000\n", 250, rfl, rfl, by decide, by decide, by decide +kernel, by decide +kernel, by
  rw [many_text]
  exact q H1 (Ex.refl _)⟩
theorem rep_ok : ∀ d ∈ List.replicate 250 deed1, DeedOk d := fun d hd => by rw [List.eq_of_mem_replicate hd]; exact draw_1
theorem rep_len : ∀ d ∈ List.replicate 250 deed1, (lnD d).length ≤ 20 := fun d hd => by
  rw [List.eq_of_mem_replicate hd]
  decide +kernel
theorem rep_tx {r : Str} (hr : r.length ≤ 20) : TxOk (textOf (List.replicate 250 deed1) ++ r) := txok_of (M := 20) (sg_text (M := 20) (ds := List.replicate 250 deed1) (r := r) rep_len hr) (by decide) (by
  have := text_len rep_len
  rw [List.length_replicate] at this
  rw [len_app]
  omega)
theorem rep_sh : outSh (textOf (List.replicate 250 deed1)) = .t [.v (.str "told"), .l (List.replicate 250 [dSh deed1]).flatten] := by
  rw [outSh_told (text_told rep_ok).1, (text_told rep_ok).2, List.map_replicate]
  rw [List.flatten_replicate_singleton]
theorem bad_sh : outSh (textOf (List.replicate 250 deed1) ++ "give 0") = .t [.v (.str "text"), .v (.int 251)] := by
  rw [outSh_bad (text_bad rep_ok (by decide +kernel) (by decide +kernel)), List.length_replicate]
  rfl
theorem two_ok : ∀ d ∈ [(("read", [0, 5]) : Deed), ("jump", [2, 0])], DeedOk d := fun d hd => by
  simp only [List.mem_cons, List.not_mem_nil, or_false] at hd
  rcases hd with rfl | rfl
  · exact draw_5
  · exact draw_2
theorem two_sh : outSh "read 0 5\njump 2 0\n" = .t [.v (.str "told"), .l [dSh ("read", [0, 5]), dSh ("jump", [2, 0])]] := by
  rw [← last_two, outSh_told (text_told two_ok).1, (text_told two_ok).2]
  rfl
theorem two_tx : TxOk "read 0 5\njump 2 0\n" := ⟨by decide +kernel, by decide +kernel⟩
abbrev s_law : Stmt := top 29
theorem sc_law : FnScope ["_law_script", "_law_state", "_law_turn", "_law_deeds_here", "_law_handed_here", "_law_due_here", "_law_again", "_law_told", "_law_found", "_law_wrong", "_law_k", "_law_x", "_law_deed", "_law_part"] ["_law_script"] (defScope s_law) := ⟨rfl, rfl, rfl, by decide +kernel, rfl, by decide +kernel, by decide +kernel⟩
theorem ok_law {CB f1 f2 f3 f4 f5 f6 f7 f8 f9 g1 : Addr} {d1 d2 d3 d4 d5 d6 d7 d8 d9 c1 : FuncData} (F : L2.Fun K "law" "law" s_law f fd) (T : Blt mg)
    (D_fresh : DefOk P w K mg base 1 "_law_fresh" f1 d1 ["_law_script"] (spFresh K)) (D_take : DefOk P w K mg base 2 "_law_take" f2 d2 ["_law_state", "_law_many"] spTake) (D_deeds : DefOk P w K mg base 4 "_law_deeds" f3 d3 ["_law_state"] spDeeds)
    (D_deep : DefOk P w K mg base 5 "_law_deep" f4 d4 ["_law_state", "_law_x"] spDeep2) (D_same : DefOk P w K mg base 5 "_law_same" f5 d5 ["_law_found", "_law_due_here"] (spSame 5)) (D_spoilt_text : DefOk P w K mg base 4 "_law_spoilt_text" f6 d6 ["_law_state", "_law_x"] spSpoil)
    (D_tried : DefOk P w K mg base 4 "_law_tried" f7 d7 ["_law_x"] spOut) (D_due : DefOk P w K mg base 3 "_law_due" f8 d8 ["_law_x"] spOut) (D_history_text : DefOk P w K mg base 2 "history_text" f9 d9 ["history"] spHistText) (BK_history_text : KBn K d9 ["history"] 0 ["history"] oneR oneR)
    (D_read_history : DefOkX P w K mg base 3 "read_history" g1 c1 ["text"] (spRead CB)) (BK_read_history : KBn K c1 ["text"] 0 ["text"] oneR oneR) : FnOk P w K mg base CX0 7 f fd ["_law_script"] (spLaw K) := by
  refine F.ok sc_law (fun vs H Q E h => ?_) (fun cdv A outer s H vs Q E hr h => ?_)
  · obtain ⟨a, ns, rfl, _⟩ := h
    rfl
  · obtain ⟨a, ns, rfl, hS, hl, k⟩ := h
    have D_room : Room 5 (A.deeper (PyProof.Rows.envOfC "law" (defScope s_law) s.heap.objs.size f cdv)) := hr.mono (by decide)
    refine ⟨_, (pss_cons (ps_set (i := 1) sc_law.nd rfl (by first | exact Or.inl rfl | exact Or.inr rfl) (pe_d D_fresh (hr.mono (by decide)) (pa_cons (pv 0) pa_nil)))
        (pss_cons (ps_for PassesOwn.never rfl (pi_range1 rfl T.b_range (pa_cons pe_int pa_nil)) (pg_name (i := 2) sc_law.nd rfl (by first | exact Or.inl rfl | exact Or.inr rfl)) (pss_cons (ps_set (i := 3) sc_law.nd rfl (by first | exact Or.inl rfl | exact Or.inr rfl) (pe_d D_deeds (hr.mono (by decide)) (pa_cons (pv 1) pa_nil)))
        (pss_cons (ps_set (i := 4) sc_law.nd rfl (by first | exact Or.inl rfl | exact Or.inr rfl) (pe_d D_deep (hr.mono (by decide)) (pa_cons (pv 1) (pa_cons (pv 3) pa_nil))))
        (pss_cons (ps_set (i := 5) sc_law.nd rfl (by first | exact Or.inl rfl | exact Or.inr rfl) (pe_join pe_str (pe_lc (own := [("_law_deed", 12)]) (g := gName 12) (tt := tYes) (te := (tOp rAddS (tM1 (rJoin K) (tC (.str " ")) (tLc (iTup K (tVar 12)) (gName 13) tYes (tCB rStrO (tCons (tVar 13) tNil)) [13])) (tC (.str "\n")))) rfl sc_law.nd (pi_list (pv 3)) (blkOk_by (own := [("_law_deed", 12)]) (by kernel_rfl)) (fun _ _ _ _ _ => (pg_name (i := 12) sc_law.nd rfl (by first | exact Or.inl rfl | exact Or.inr rfl))) (fun _ _ _ _ _ => pts_nil) (fun _ _ _ _ _ => by exact (pe_op op_add_str (pe_join pe_str (pe_lc (own := [("_law_part", 13)]) (g := gName 13) (tt := tYes) (te := (tCB rStrO (tCons (tVar 13) tNil))) rfl sc_law.nd (pi_tup (pv 12)) (blkOk_by (own := [("_law_part", 13)]) (by kernel_rfl)) (fun _ _ _ _ _ => (pg_name (i := 13) sc_law.nd rfl (by first | exact Or.inl rfl | exact Or.inr rfl))) (fun _ _ _ _ _ => pts_nil) (fun _ _ _ _ _ => by exact (pe_callTy call_strO (by rfl) T.b_str (by decide +kernel) (pa_cons (pv 13) pa_nil))))) pe_str)))))
        (pss_cons (ps_for PassesOwn.never rfl (pi_range1 rfl T.b_range (pa_cons pe_int pa_nil)) (pg_name (i := 6) sc_law.nd rfl (by first | exact Or.inl rfl | exact Or.inr rfl)) (pss_cons (ps_set (i := 7) sc_law.nd rfl (by first | exact Or.inl rfl | exact Or.inr rfl) (pe_ifExp (pt_cmpR op_eq (pv 6) pe_int (nomark _)) (pe_d D_history_text (hr.mono (by decide)) (pa_cons (pv 4) pa_nil)) (pe_dK D_history_text BK_history_text (hr.mono (by decide)) (pk_cons (pv 4) pk_nil))))
        (pss_cons (ps_set (i := 8) sc_law.nd rfl (by first | exact Or.inl rfl | exact Or.inr rfl) (pe_ifExp (pt_cmpR op_eq (pv 6) pe_int (nomark _)) (pe_dX D_read_history (hr.mono (by decide)) passes_no (pa_cons (pv 7) pa_nil)) (pe_dKX D_read_history BK_read_history (hr.mono (by decide)) passes_no (pk_cons (pv 7) pk_nil))))
        (pss_cons (ps_if (pt_not (pt_val (pe_d D_same D_room (pa_cons (pe_lst (pa_cons (pv 7) (pa_cons (pv 8) pa_nil))) (pa_cons (pe_lst (pa_cons (pv 5) (pa_cons (pv 3) pa_nil))) pa_nil))))) (pss_one (ps_ret pe_bl)) pss_nil)
        (pss_one (ps_expr (pe_bm PySem.F.plainAttrs_list PySem.F.slot_list_append PySem.F.type_list_append mt_append (pv 8) (pa_cons pe_str pa_nil))))))))
        (pss_cons (ps_set (i := 9) sc_law.nd rfl (by first | exact Or.inl rfl | exact Or.inr rfl) (pv 5))
        (pss_cons (ps_for PassesOwn.never rfl (pi_range1 rfl T.b_range (pa_cons (pe_op op_add pe_int (pe_d D_take (hr.mono (by decide)) (pa_cons (pv 1) (pa_cons pe_int pa_nil)))) pa_nil)) (pg_name (i := 10) sc_law.nd rfl (by first | exact Or.inl rfl | exact Or.inr rfl)) (pss_one (ps_set (i := 9) sc_law.nd rfl (by first | exact Or.inl rfl | exact Or.inr rfl) (pe_d D_spoilt_text (hr.mono (by decide)) (pa_cons (pv 1) (pa_cons (pv 9) pa_nil))))))
        (pss_one (ps_for PassesOwn.never rfl (pi_list (pe_lst (pa_cons (pv 9) (pa_cons (pe_slice sl_str (pv 5) po_none (po_some (pe_un un_neg pe_int))) (pa_cons (pe_op op_add_str (pv 5) pe_str) (pa_cons (pe_op op_add_str (pv 5) pe_str) pa_nil)))))) (pg_name (i := 11) sc_law.nd rfl (by first | exact Or.inl rfl | exact Or.inr rfl)) (pss_one (ps_if (pt_not (pt_val (pe_d D_same D_room (pa_cons (pe_lst (pa_cons (pe_d D_tried (hr.mono (by decide)) (pa_cons (pv 11) pa_nil)) (pa_cons (pe_d D_tried (hr.mono (by decide)) (pa_cons (pv 11) pa_nil)) pa_nil))) (pa_cons (pe_op op_rep (pe_lst (pa_cons (pe_d D_due (hr.mono (by decide)) (pa_cons (pv 11) pa_nil)) pa_nil)) pe_int) pa_nil))))) (pss_one (ps_ret pe_bl)) pss_nil)))))))))))
        (pss_cons (ps_for PassesOwn.never rfl (pi_list (pe_lst (pa_cons pe_str (pa_cons pe_str (pa_cons pe_str (pa_cons pe_str (pa_cons pe_str (pa_cons pe_str (pa_cons pe_str (pa_cons pe_str (pa_cons pe_str pa_nil))))))))))) (pg_name (i := 11) sc_law.nd rfl (by first | exact Or.inl rfl | exact Or.inr rfl)) (pss_one (ps_if (pt_not (pt_val (pe_d D_same D_room (pa_cons (pe_d D_tried (hr.mono (by decide)) (pa_cons (pv 11) pa_nil)) (pa_cons (pe_ifExp (pt_cmpR op_eq (pv 11) pe_str (nomark _)) (pe_tup (pa_cons pe_str (pa_cons (pe_lst pa_nil) pa_nil))) (pe_tup (pa_cons pe_str (pa_cons (pe_op op_add pe_int (pe_callTy call_int1 (by rfl) T.b_int (by decide +kernel) (pa_cons (pe_cmpR op_eq (pe_slice sl_str (pv 11) po_none (po_some pe_int)) pe_str (nomark _)) pa_nil))) pa_nil)))) pa_nil))))) (pss_one (ps_ret pe_bl)) pss_nil)))
        (pss_cons (ps_set (i := 11) sc_law.nd rfl (by first | exact Or.inl rfl | exact Or.inr rfl) (pe_op op_mulS pe_str pe_int))
        (pss_cons (ps_if (pt_not (pt_val (pe_d D_same D_room (pa_cons (pe_d D_tried (hr.mono (by decide)) (pa_cons (pv 11) pa_nil)) (pa_cons (pe_tup (pa_cons pe_str (pa_cons (pe_op op_rep (pe_lst (pa_cons (pe_tup (pa_cons pe_str (pa_cons pe_int (pa_cons (pe_op op_pow pe_int pe_int) pa_nil)))) pa_nil)) pe_int) pa_nil))) pa_nil))))) (pss_one (ps_ret pe_bl)) pss_nil)
        (pss_cons (ps_if (pt_not (pt_val (pe_d D_same D_room (pa_cons (pe_d D_tried (hr.mono (by decide)) (pa_cons (pe_op op_add_str (pv 11) pe_str) pa_nil)) (pa_cons (pe_tup (pa_cons pe_str (pa_cons pe_int pa_nil))) pa_nil))))) (pss_one (ps_ret pe_bl)) pss_nil)
        (pss_one (ps_ret (pe_d D_same D_room (pa_cons (pe_d D_tried (hr.mono (by decide)) (pa_cons pe_str pa_nil)) (pa_cons (pe_tup (pa_cons pe_str (pa_cons (pe_lst (pa_cons (pe_tup (pa_cons pe_str (pa_cons pe_int (pa_cons pe_int pa_nil)))) (pa_cons (pe_tup (pa_cons pe_str (pa_cons pe_int (pa_cons pe_int pa_nil)))) pa_nil))) pa_nil))) pa_nil))))))))))), ?_⟩
    refine ⟨_, rfl, a, ns, rfl, hS, hl, fun st c H0 nst nc e0 S0 => ?_⟩
    refine ⟨_, rfl, by decide, by decide, for_range (lo := 0) (n := 8) (fun i σ' H' => ∃ v2 v3 v4 v5 v6 v7 v8 v9 v10 v11 v12 v13 : Option V, σ' = [some (.ref a), some (.ref st), v2, v3, v4, v5, v6, v7, v8, v9, v10, v11, v12, v13] ∧ StAt H' st c)
      ⟨none, none, none, none, none, none, none, none, none, none, none, none, rfl, S0⟩ ?_ ?_⟩
    · rintro i0 σ' H hi0 ⟨v2, v3, v4, v5, v6, v7, v8, v9, v10, v11, v12, v13, rfl, S⟩
      refine ⟨_, rfl, st, c, rfl, S, fun p xs ds H1 np S1 k1 hp hD hdl hok => ?_⟩
      dsimp only [gName, List.set]
      have nps : p ≠ st := (S.of_new np).1
      refine ⟨_, rfl, _, rfl, st, c, p, xs, ds, rfl, S1, nps, hp, hD, by omega, fun d hd => by have := (hok d hd).sm.n; omega, fun q vs H2 nq S2 k2 hq hA => ?_⟩
      dsimp only [gName, List.set]
      have hp2 := k2 _ _ nps hp
      have hD2 := hD.kps S1 k2
      have hsm : ∀ d ∈ ds, DSm d := fun d hd => (hok d hd).sm
      have hdo : ∀ d ∈ ds, DeedOk d := fun d hd => (hok d hd).ok
      refine q_asg (ev_due (K := K) (i := 12) (j := 13) (n := 3) rfl hp2 hD2 (by omega) hsm (fun _ => rfl) (fun _ => rfl) (fun _ _ => rfl)) fun H3 e3 => ?_
      dsimp only [List.set]
      have hp3 := e3 _ _ hp2
      have hD3 := hD2.same e3
      have hq3 := seq_same hq e3
      have hA3 := hA.same e3
      have S3 := S2.same e3
      have k03 : Kp st H H3 := k1.trans (k2.trans (Kp.of e3))
      have hn1000 : ∀ d ∈ ds, d.2.length ≤ 1000 := fun d hd => by have := (hsm d hd).n; omega
      have txl := text_len (ds := ds) fun d h => lnD_len (hok d h)
      have hsg0 : SgB 20 (tl (textOf ds)) := by
        have := sg_draw (r := "") hok (by decide +kernel)
        rw [app_nil] at this
        exact this
      refine q_forR1 (n := 2) (ea_cons ev_c ea_nil) (by decide) (fun j σ' H' => ∃ u6 u7 u8 : Option V, σ' = [some (.ref a), some (.ref st), some (.int ((0 : Int) + (i0 : Int))), some (.ref p), some (.ref q), some (.str (textOf ds)), u6, u7, u8, v9, v10, v11, v12, v13] ∧ Ex H3 H') (fun H4 e4 => ⟨_, _, _, rfl, e4⟩) ?_ ?_
      · rintro j σ' H4 hj ⟨u6, u7, u8, rfl, e4⟩
        dsimp only [List.set]
        have et0 : EvT (tTest (tOp rEq (tVar 6) (tC (.int 0)))) [some (.ref a), some (.ref st), some (.int ((0 : Int) + (i0 : Int))), some (.ref p), some (.ref q), some (.str (textOf ds)), some (.int (j : Int)), u7, u8, v9, v10, v11, v12, v13] H4 (decide (V.int (j : Int) = .int 0)) := et_test (ev_op (ev_var rfl) ev_c (rv_eq rfl))
        refine q_asg (v := .str (textOf ds)) (ev_if et0 (fun _ H5 e5 Q q' => ⟨_, rfl, q, vs, ds, rfl, seq_same hq3 (Ex.trans e4 e5), hA3.same (Ex.trans e4 e5), by omega, hsm, fun H6 e6 => q' H6 e6⟩) (fun _ H5 e5 Q q' => ⟨_, rfl, rfl, q, vs, ds, rfl, seq_same hq3 (Ex.trans e4 e5), hA3.same (Ex.trans e4 e5), by omega, hsm, fun H6 e6 => q' H6 e6⟩)) fun H5 e5 => ?_
        dsimp only [List.set]
        have et1 : EvT (tTest (tOp rEq (tVar 6) (tC (.int 0)))) [some (.ref a), some (.ref st), some (.int ((0 : Int) + (i0 : Int))), some (.ref p), some (.ref q), some (.str (textOf ds)), some (.int (j : Int)), some (.str (textOf ds)), u8, v9, v10, v11, v12, v13] H5 (decide (V.int (j : Int) = .int 0)) := et_test (ev_op (ev_var rfl) ev_c (rv_eq rfl))
        refine q_asgLD (eld_if (ds := ds) et1 (fun H6 e6 Q q' => ⟨_, rfl, read_told hok hdl q'⟩) (fun H6 e6 Q q' => ⟨_, rfl, rfl, read_told hok hdl q'⟩)) fun r ys H6 nr e6 hr6 hDr => ?_
        dsimp only [List.set]
        have e46 := Ex.trans e4 (Ex.trans e5 e6)
        have sm := ev_sameR (d := 5) (σ := [some (.ref a), some (.ref st), some (.int ((0 : Int) + (i0 : Int))), some (.ref p), some (.ref q), some (.str (textOf ds)), some (.int (j : Int)), some (.str (textOf ds)), some (.ref r), v9, v10, v11, v12, v13]) (H := H6) (er_lst (er_cons (er_s (ev_var (i := 7) rfl)) (er_cons (er_var (i := 8) rfl (rep_deeds (k := 1) hr6 hDr (by omega) hn1000)) er_nil)) (by show 2 ≤ 40000; decide)) (er_lst (er_cons (er_s (ev_var (i := 5) rfl)) (er_cons (er_var (i := 3) rfl (rep_deeds (k := 1) (e46 _ _ hp3) (hD3.same e46) (by omega) hn1000)) er_nil)) (by show 2 ≤ 40000; decide))
        refine q_when (b := false) (et_is (et_not (et_B sm)) rfl) (fun z => nomatch z) fun _ H7 e7 => ?_
        refine s_app (e7 _ _ hr6) (ev_var rfl) ev_c (by rw [hDr.1]; omega) fun H8 e8 => ?_
        exact ⟨_, _, _, rfl, Ex.mut (Ex.trans e46 (Ex.trans e7 e8)) (fresh_back (Ex.trans e4 e5) nr)⟩
      · rintro σ' H4 ⟨u6, u7, u8, rfl, e4⟩
        have S4 := S3.same e4
        refine q_asg (v := .str (textOf ds)) (ev_var rfl) fun H5 e5 => ?_
        dsimp only [List.set]
        have S5 := S4.same e5
        refine ⟨_, rfl, st, c, 2, rfl, S5, by decide, by decide, fun d H6 d0 d2 S6 k6 => ⟨_, _, rfl, rfl, _, rfl, by omega, by omega, for_range (lo := 0) (n := (1 + d).toNat) (fun j σ' H' => ∃ (y : Str) (M : Nat) (u10 : Option V), σ' = [some (.ref a), some (.ref st), some (.int ((0 : Int) + (i0 : Int))), some (.ref p), some (.ref q), some (.str (textOf ds)), u6, u7, u8, some (.str y), u10, v11, v12, v13] ∧ StAt H' st c ∧ SgB M (tl y) ∧ y.length ≤ 500 + 120 * j ∧ (j = 0 → M ≤ 20) ∧ (j = 1 → M ≤ 46) ∧ (j = 2 → M ≤ 98)) ⟨_, 20, _, rfl, S6, hsg0, by omega, fun _ => Nat.le_refl _, fun h => absurd h (by decide), fun h => absurd h (by decide)⟩ ?_ ?_⟩⟩
        · rintro j σ' H7 hj ⟨y, M, u10, rfl, S7, hsg, hyl, h0, h1, h2⟩
          have hj2 : j = 0 ∨ j = 1 := by omega
          dsimp only [gName, List.set]
          have hM : M ≤ 46 := by rcases hj2 with h | h; have := h0 h; omega; exact h1 h
          refine ⟨_, rfl, _, rfl, st, c, y, M, rfl, S7, hsg, by omega, by omega, fun y' H8 hsg' hl' S8 k8 => ⟨y', _, _, rfl, S8, hsg', by omega, fun h => by omega, fun h => ?_, fun h => ?_⟩⟩
          · have : j = 0 := by omega
            have := h0 this
            omega
          · omega
        · rintro σ' H7 ⟨y, M, u10, rfl, S7, hsg, hyl, h0, h1, h2⟩
          have hM : M ≤ 98 := by
            have : (1 + d).toNat = 1 ∨ (1 + d).toNat = 2 := by omega
            rcases this with h | h
            · have := h1 h; omega
            · exact h2 h
          have hyl : y.length ≤ 800 := by omega
          have tx1 := txok_of hsg (by omega) (by omega)
          have tx2 : TxOk (cutS (textOf ds) none (some (-1))) := by
            refine txok_of (M := 20) ?_ (by decide) ?_
            · exact sg_take (sg_drop hsg0)
            · have : (cutS (textOf ds) none (some (-1))).length ≤ (textOf ds).length := by
                rw [len_tl, len_tl]
                show (((tl (textOf ds)).drop _).take _).length ≤ _
                rw [List.length_take, List.length_drop]
                omega
              omega
          have l1 : ("\n" : Str).length = 1 := rfl
          have l6 : ("give 0" : Str).length = 6 := rfl
          have tx3 : TxOk (textOf ds ++ "\n") := by
            refine txok_of (M := 20) ?_ (by decide) (by rw [len_app]; omega)
            rw [tl_app, tl_nl]
            exact sg_nl hsg0 (sg_short (Nat.zero_le _))
          have tx4 : TxOk (textOf ds ++ "give 0") := txok_of (M := 20) (sg_draw hok (by decide +kernel)) (by decide) (by rw [len_app]; omega)
          refine s_forNL (xs := [.str y, .str (cutS (textOf ds) none (some (-1))), .str (textOf ds ++ "\n"), .str (textOf ds ++ "give 0")]) (el_lst (ea_cons (ev_var rfl) (ea_cons (ev_slS (z := textOf ds) (ev_var rfl) eo_none (eo_some ev_m1) (by omega)) (ea_cons (ev_addS (ev_var rfl) ev_c (by omega)) (ea_cons (ev_addS (ev_var rfl) ev_c (by omega)) ea_nil)))) (by show 4 ≤ 100000; decide)) (fun p0 i σ' H' => ∃ u11 : Option V, σ' = [some (.ref a), some (.ref st), some (.int ((0 : Int) + (i0 : Int))), some (.ref p), some (.ref q), some (.str (textOf ds)), u6, u7, u8, some (.str y), u10, u11, v12, v13] ∧ StAt H' st c ∧ H' p0 = some (.lst [.str y, .str (cutS (textOf ds) none (some (-1))), .str (textOf ds ++ "\n"), .str (textOf ds ++ "give 0")])) (fun p0 H8 np0 e8 hp0 => ⟨_, rfl, S7.same e8, hp0⟩) (fun p0 i σ' H' _ ⟨_, _, _, h⟩ => SqL.of h) ?_ ?_
          · rintro p0 i x σ' H8 hx ⟨u11, rfl, S8, hp0⟩
            obtain ⟨t, rfl, htx⟩ : ∃ t, x = .str t ∧ TxOk t := by
              have := List.mem_of_getElem? hx
              simp only [List.mem_cons, List.not_mem_nil, or_false] at this
              rcases this with h | h | h | h
              · exact ⟨_, h, tx1⟩
              · exact ⟨_, h, tx2⟩
              · exact ⟨_, h, tx3⟩
              · exact ⟨_, h, tx4⟩
            dsimp only [List.set]
            exact s_when (b := false) (et_is (et_not (et_B (er_pair (i := 11) rfl htx))) rfl) (fun z => nomatch z) fun _ H9 e9 => ⟨_, rfl, S8.same e9, e9 _ _ hp0⟩
          · rintro p0 σ' H8 ⟨u11, rfl, S8, hp0⟩
            exact ⟨_, _, _, _, _, _, _, _, _, _, _, _, rfl, S8⟩
    · rintro σ' H ⟨v2, v3, v4, v5, v6, v7, v8, v9, v10, v11, v12, v13, rfl, S⟩
      refine q_forNLn (xs := nine.map V.str) (el_lst (ea_cons ev_c (ea_cons ev_c (ea_cons ev_c (ea_cons ev_c (ea_cons ev_c (ea_cons ev_c (ea_cons ev_c (ea_cons ev_c (ea_cons ev_c ea_nil))))))))) (by show 9 ≤ 100000; decide)) (fun p0 i σ' H' => ∃ u11 : Option V, σ' = [some (.ref a), some (.ref st), v2, v3, v4, v5, v6, v7, v8, v9, v10, u11, v12, v13] ∧ H' p0 = some (.lst (nine.map V.str))) (fun p0 H8 np0 e8 hp0 => ⟨_, rfl, hp0⟩) (fun p0 i σ' H' _ ⟨_, _, h⟩ => SqL.of h) ?_ ?_
      · rintro p0 i x σ' H8 hx ⟨u11, rfl, hp0⟩
        obtain ⟨t, rfl, ht⟩ := strs_of (List.mem_of_getElem? hx)
        obtain ⟨htl, hcase⟩ := nine_of t ht
        have htx : TxOk t := ⟨by omega, fun l hl => Nat.le_trans (lines_len t l hl) (by omega)⟩
        dsimp only [List.set]
        have et0 : EvT (tTest (tOp rEq (tVar 11) (tC (.str "")))) [some (.ref a), some (.ref st), v2, v3, v4, v5, v6, v7, v8, v9, v10, some (.str t), v12, v13] H8 (decide (t = "")) := et_is (et_test (ev_op (ev_var (v := .str t) rfl) ev_c (rv_eq rfl))) (str_eqD _ _)
        have eo : EvR (tCall spOut [] E0 (tCons (tVar 11) tNil)) [some (.ref a), some (.ref st), v2, v3, v4, v5, v6, v7, v8, v9, v10, some (.str t), v12, v13] H8 4 (outSh t) := er_out (fun H1 e => ev_var rfl) htx
        have er2 : EvR _ [some (.ref a), some (.ref st), v2, v3, v4, v5, v6, v7, v8, v9, v10, some (.str t), v12, v13] H8 4 (outSh t) := er_if (ta := tTup (tCons (tC (.str "told")) (tCons (tLst tNil) tNil))) (tb := tTup (tCons (tC (.str "text")) (tCons (tOp (rI0 fun i j => .int (i + j)) (tC (.int 1)) (tCB (fun xs H Q => (∃ i, xs = [V.int i] ∧ Q (V.int i) H) ∨ ∃ k, xs = [V.bl k] ∧ Q (V.int (if k = true then 1 else 0)) H) (tCons (tOp rEq (tSl rSlS (tVar 11) tNoPart (tPart (tC (.int 7)))) (tC (.str "give 0\n"))) tNil))) tNil))) et0 (fun hb => by
          have h0 := of_decide_eq_true hb
          rcases hcase with ⟨_, h1, h2⟩ | ⟨h1, _⟩
          · rw [outSh_told h1, h2]
            exact er_tup (er_cons (er_s ev_c) (er_cons (er_lst er_nil (by decide)) er_nil)) (by show 2 ≤ 40000; decide)
          · exact absurd h0 h1) (fun hb => by
          have h0 := of_decide_eq_false hb
          rcases hcase with ⟨h1, _⟩ | ⟨_, h1⟩
          · exact absurd h1 h0
          · rw [outSh_bad h1]
            refine er_tup (er_cons (er_s ev_c) (er_cons (er_i (fun H9 e9 Q q => ?_)) er_nil)) (by show 2 ≤ 40000; decide)
            refine (ev_slS (z := t) (ev_var (i := 11) rfl) eo_none (eo_some (ev_c (v := .int 7))) (by omega)) H9 (Ex.refl _) _ fun H10 e10 => ⟨rfl, .inr ⟨_, rfl, _, _, rfl, rfl, ?_⟩⟩
            have := q H10 e10
            rw [str_eqD]
            by_cases hc : cutS t none (some 7) = "give 0\n"
            · rw [if_pos hc] at this
              rw [decide_eq_true hc]
              exact this
            · rw [if_neg hc] at this
              rw [decide_eq_false hc]
              exact this)
        exact s_when (b := false) (et_is (et_not (et_B (ev_sameR (d := 5) (er_up eo) (er_up er2)))) rfl) (fun z => nomatch z) fun _ H9 e9 => ⟨_, rfl, e9 _ _ hp0⟩
      · rintro p0 σ' H1 ⟨u11, rfl, hp0⟩
        refine q_asg ev_mulS fun H2 e2 => ?_
        dsimp only [List.set]
        have o1 : EvR (tCall spOut [] E0 (tCons (tVar 11) tNil)) [some (.ref a), some (.ref st), v2, v3, v4, v5, v6, v7, v8, v9, v10, some (.str (textOf (List.replicate 250 deed1))), v12, v13] H2 4 (outSh (textOf (List.replicate 250 deed1))) := er_out (fun H1 e => ev_var rfl) (by have := rep_tx (r := "") (by decide +kernel); rwa [app_nil] at this)
        have o2 := er_tup (er_cons (er_s (d := 2) (σ := [some (.ref a), some (.ref st), v2, v3, v4, v5, v6, v7, v8, v9, v10, some (.str (textOf (List.replicate 250 deed1))), v12, v13]) (H := H2) (ev_c (v := .str "told"))) (er_cons (er_rep (n := 250) (er_lst (er_cons (er_tup (er_cons (er_s (ev_c (v := .str "read"))) (er_cons (er_i (ev_c (v := .int 0))) (er_cons (er_i ev_pow) er_nil))) (by show 3 ≤ 40000; decide)) er_nil) (by show 1 ≤ 40000; decide)) (fun H1 e => ev_c) (by show 1 * 250 ≤ 40000; decide) (by decide)) er_nil)) (by show 2 ≤ 40000; decide)
        refine q_when (b := false) (et_is (et_not (et_B (ev_sameR (d := 5) (er_up o1) (er_up (er_is o2 rep_sh.symm))))) rfl) (fun z => nomatch z) fun _ H3 e3 => ?_
        have hl3 : (textOf (List.replicate 250 deed1)).length + ("give 0" : Str).length ≤ 100000 := by
          have h6 : ("give 0" : Str).length = 6 := rfl
          have := text_len rep_len
          rw [List.length_replicate] at this
          omega
        have o3 : EvR (tCall spOut [] E0 (tCons (tOp rAddS (tVar 11) (tC (.str "give 0"))) tNil)) [some (.ref a), some (.ref st), v2, v3, v4, v5, v6, v7, v8, v9, v10, some (.str (textOf (List.replicate 250 deed1))), v12, v13] H3 4 (outSh (textOf (List.replicate 250 deed1) ++ "give 0")) := er_out (fun H1 e => ev_addS (ev_var rfl) ev_c hl3) (rep_tx (by decide +kernel))
        rw [bad_sh] at o3
        refine q_when (b := false) (et_is (et_not (et_B (ev_sameR (d := 5) (er_up o3) (er_up (er_tup (er_cons (er_s ev_c) (er_cons (er_i ev_c) er_nil)) (by show 2 ≤ 40000; decide)))))) rfl) (fun z => nomatch z) fun _ H4 e4 => ?_
        have o5 : EvR (tCall spOut [] E0 (tCons (tC (.str "read 0 5\njump 2 0\n")) tNil)) [some (.ref a), some (.ref st), v2, v3, v4, v5, v6, v7, v8, v9, v10, some (.str (textOf (List.replicate 250 deed1))), v12, v13] H4 4 (outSh "read 0 5\njump 2 0\n") := er_out (fun H1 e => ev_c) two_tx
        rw [two_sh] at o5
        refine s_ret (ev_sameR (d := 5) (er_up o5) (er_up (er_tup (er_cons (er_s ev_c) (er_cons (er_lst (er_cons (er_tup (er_cons (er_s ev_c) (er_cons (er_i ev_c) (er_cons (er_i ev_c) er_nil))) (by show 3 ≤ 40000; decide)) (er_cons (er_tup (er_cons (er_s ev_c) (er_cons (er_i ev_c) (er_cons (er_i ev_c) er_nil))) (by show 3 ≤ 40000; decide)) er_nil)) (by show 2 ≤ 40000; decide)) er_nil)) (by show 2 ≤ 40000; decide)))) fun H5 e5 => k H5
end
end Lm

namespace Lm
open PySem L2 Evl RZ
theorem sqt_of {K : PySem.W.Frag} {a : Addr} {od : Option Addr} {sl : Array (Option Value)} {its : Array Value} {n : Nat} {xs : List V} (h : K.lookup a = some ⟨.type "tuple", od, .seq its n, sl⟩) (hz : its.size ≤ 100) (hv : Vals xs its.toList) : ∀ H, SqT K H a xs := fun H => .inr ⟨_, its, n, h, rfl, rfl, sz_of (by omega), hv⟩
end Lm

namespace Lm
open PySem L2
theorem all_mk {l : PySem.W.OpenLaw} {w : World} {K : PySem.W.Frag} {h : Heap} {mg : Str → Option Value} {fa AK AL C_TX f_fresh f_fill f_take f_one f_same f_handed f_deep f_TXinit f_isfig f_line f_dline f_lines f_read f_htext f_deeds f_number f_deedof f_due f_tried f_sptext f_law : Addr} (X : K.In h) (G : h.Ns mainGlobals mg) (hfa : mg "law" = some (.ref fa))
    {od_fresh an_fresh od_fill an_fill od_take an_take od_one an_one od_same an_same od_handed an_handed od_deep an_deep od_TXinit an_TXinit od_isfig an_isfig od_line an_line od_dline an_dline od_lines an_lines od_read an_read od_htext an_htext od_deeds an_deeds od_number an_number od_deedof an_deedof od_due an_due od_tried an_tried od_sptext an_sptext od_law an_law : Option Addr} {sl_fresh sl_fill sl_take sl_one sl_same sl_handed sl_deep sl_TXinit sl_isfig sl_line sl_dline sl_lines sl_read sl_htext sl_deeds sl_number sl_deedof sl_due sl_tried sl_sptext sl_law : Array (Option Value)} {oc_fresh kV_fresh dc_fresh pm_fresh cd_fresh ct_fresh oc_fill kV_fill dc_fill pm_fill cd_fill ct_fill oc_take kV_take dc_take pm_take cd_take ct_take oc_one kV_one dc_one pm_one cd_one ct_one oc_same kV_same dc_same pm_same cd_same ct_same oc_handed kV_handed dc_handed pm_handed cd_handed ct_handed oc_deep kV_deep dc_deep pm_deep cd_deep ct_deep oc_TXinit kV_TXinit dc_TXinit pm_TXinit cd_TXinit ct_TXinit oc_isfig kV_isfig dc_isfig pm_isfig cd_isfig ct_isfig oc_line kV_line dc_line pm_line cd_line ct_line oc_dline kV_dline dc_dline pm_dline cd_dline ct_dline oc_lines kV_lines dc_lines pm_lines cd_lines ct_lines oc_read kV_read dc_read pm_read cd_read ct_read oc_htext kV_htext dc_htext pm_htext cd_htext ct_htext oc_deeds kV_deeds dc_deeds pm_deeds cd_deeds ct_deeds oc_number kV_number dc_number pm_number cd_number ct_number oc_deedof kV_deedof dc_deedof pm_deedof cd_deedof ct_deedof oc_due kV_due dc_due pm_due cd_due ct_due oc_tried kV_tried dc_tried pm_tried cd_tried ct_tried oc_sptext kV_sptext dc_sptext pm_sptext cd_sptext ct_sptext oc_law kV_law dc_law pm_law cd_law ct_law : Value}
    {nmTX qTX : Str} {NTX : Addr} {bsTX bmTX : List Value} {snTX : List Str} {subTX : List Value} {abTX : Bool} {colTX : Option Bool} {ddTX : Option Addr} {k0TX k1TX k2TX k3TX k5TX : Option Value} {odAK odAL : Option Addr} {nnAK nnAL : Nat} {slAK slAL : Array (Option Value)} {t1 t2 t3 t4 t5 t6 t7 tD tM : Tok}
    (a_fresh : PySem.W.nsIn K mainGlobals "_law_fresh" = some (some (.ref f_fresh)))
    (l_fresh : K.lookup f_fresh = some ⟨oc_fresh, od_fresh, .func (PySem.W.fnOf "_law_fresh" "_law_fresh" (defArgs s_fresh) (defBody s_fresh) (defScope s_fresh) .none kV_fresh dc_fresh pm_fresh an_fresh cd_fresh ct_fresh), sl_fresh⟩)
    (c_fresh : PySem.W.codeIn K cd_fresh "_law_fresh" = true)
    (k_fresh : PySem.W.keepIn K (.ref f_fresh) = true)
    (a_fill : PySem.W.nsIn K mainGlobals "_law_fill" = some (some (.ref f_fill)))
    (l_fill : K.lookup f_fill = some ⟨oc_fill, od_fill, .func (PySem.W.fnOf "_law_fill" "_law_fill" (defArgs s_fill) (defBody s_fill) (defScope s_fill) .none kV_fill dc_fill pm_fill an_fill cd_fill ct_fill), sl_fill⟩)
    (c_fill : PySem.W.codeIn K cd_fill "_law_fill" = true)
    (k_fill : PySem.W.keepIn K (.ref f_fill) = true)
    (a_take : PySem.W.nsIn K mainGlobals "_law_take" = some (some (.ref f_take)))
    (l_take : K.lookup f_take = some ⟨oc_take, od_take, .func (PySem.W.fnOf "_law_take" "_law_take" (defArgs s_take) (defBody s_take) (defScope s_take) .none kV_take dc_take pm_take an_take cd_take ct_take), sl_take⟩)
    (c_take : PySem.W.codeIn K cd_take "_law_take" = true)
    (k_take : PySem.W.keepIn K (.ref f_take) = true)
    (a_one : PySem.W.nsIn K mainGlobals "_law_one" = some (some (.ref f_one)))
    (l_one : K.lookup f_one = some ⟨oc_one, od_one, .func (PySem.W.fnOf "_law_one" "_law_one" (defArgs s_one) (defBody s_one) (defScope s_one) .none kV_one dc_one pm_one an_one cd_one ct_one), sl_one⟩)
    (c_one : PySem.W.codeIn K cd_one "_law_one" = true)
    (k_one : PySem.W.keepIn K (.ref f_one) = true)
    (a_same : PySem.W.nsIn K mainGlobals "_law_same" = some (some (.ref f_same)))
    (l_same : K.lookup f_same = some ⟨oc_same, od_same, .func (PySem.W.fnOf "_law_same" "_law_same" (defArgs s_same) (defBody s_same) (defScope s_same) .none kV_same dc_same pm_same an_same cd_same ct_same), sl_same⟩)
    (c_same : PySem.W.codeIn K cd_same "_law_same" = true)
    (k_same : PySem.W.keepIn K (.ref f_same) = true)
    (a_handed : PySem.W.nsIn K mainGlobals "_law_handed" = some (some (.ref f_handed)))
    (l_handed : K.lookup f_handed = some ⟨oc_handed, od_handed, .func (PySem.W.fnOf "_law_handed" "_law_handed" (defArgs s_handed) (defBody s_handed) (defScope s_handed) .none kV_handed dc_handed pm_handed an_handed cd_handed ct_handed), sl_handed⟩)
    (c_handed : PySem.W.codeIn K cd_handed "_law_handed" = true)
    (k_handed : PySem.W.keepIn K (.ref f_handed) = true)
    (a_deep : PySem.W.nsIn K mainGlobals "_law_deep" = some (some (.ref f_deep)))
    (l_deep : K.lookup f_deep = some ⟨oc_deep, od_deep, .func (PySem.W.fnOf "_law_deep" "_law_deep" (defArgs s_deep) (defBody s_deep) (defScope s_deep) .none kV_deep dc_deep pm_deep an_deep cd_deep ct_deep), sl_deep⟩)
    (c_deep : PySem.W.codeIn K cd_deep "_law_deep" = true)
    (k_deep : PySem.W.keepIn K (.ref f_deep) = true)
    (aTX : PySem.W.nsIn K mainGlobals "BadText" = some (some (.ref C_TX)))
    (oTX : K.lookup C_TX = some (excClassObj nmTX qTX C_TX NTX bsTX bmTX true snTX subTX abTX colTX ddTX k0TX k1TX k2TX k3TX k5TX "ValueError.__new__"))
    (rTX : PySem.HandSPX.refsVE bmTX = true)
    (sTX : PySem.W.findIn K (.ref C_TX) "__setattr__" = some (some (.builtin "object.__setattr__")))
    (bTX : PySem.W.subIn K (.ref C_TX) (.type "BaseException") = some true)
    (tTX : PySem.W.typeIn K (.ref C_TX) = some (.type "type"))
    (kTX : PySem.W.keepIn K (.ref C_TX) = true)
    (gaTX : PySem.W.findIn K (.ref C_TX) "__getattribute__" = some (some (.builtin "BaseException.__getattribute__")))
    (ggTX : PySem.W.findIn K (.ref C_TX) "__getattr__" = some none)
    (hdTX : PySem.W.hasDictIn K C_TX = true)
    (iTX : PySem.W.findIn K (.ref C_TX) "__init__" = some (some (.ref f_TXinit)))
    (tyTX : PySem.W.typeIn K (.ref f_TXinit) = some (.type "function"))
    (noTX : PySem.W.findIn K (.ref C_TX) "line" = some none)
    (icTX : PySem.W.isClsIn K C_TX = true)
    (seTX : PySem.W.subIn K (.ref C_TX) (.ref C_TX) = some true)
    (l_TXinit : K.lookup f_TXinit = some ⟨oc_TXinit, od_TXinit, .func (PySem.W.fnOf "__init__" "BadText.__init__" (defArgs s_BadText_init) (defBody s_BadText_init) (defScope s_BadText_init) .none kV_TXinit dc_TXinit pm_TXinit an_TXinit cd_TXinit ct_TXinit), sl_TXinit⟩)
    (c_TXinit : PySem.W.codeIn K cd_TXinit "BadText.__init__" = true)
    (k_TXinit : PySem.W.keepIn K (.ref f_TXinit) = true)
    (a_isfig : PySem.W.nsIn K mainGlobals "is_figures" = some (some (.ref f_isfig)))
    (l_isfig : K.lookup f_isfig = some ⟨oc_isfig, od_isfig, .func (PySem.W.fnOf "is_figures" "is_figures" (defArgs s_is_figures) (defBody s_is_figures) (defScope s_is_figures) .none kV_isfig dc_isfig pm_isfig an_isfig cd_isfig ct_isfig), sl_isfig⟩)
    (c_isfig : PySem.W.codeIn K cd_isfig "is_figures" = true)
    (k_isfig : PySem.W.keepIn K (.ref f_isfig) = true)
    (a_line : PySem.W.nsIn K mainGlobals "line_of_deed" = some (some (.ref f_line)))
    (l_line : K.lookup f_line = some ⟨oc_line, od_line, .func (PySem.W.fnOf "line_of_deed" "line_of_deed" (defArgs s_line_of_deed) (defBody s_line_of_deed) (defScope s_line_of_deed) .none kV_line dc_line pm_line an_line cd_line ct_line), sl_line⟩)
    (c_line : PySem.W.codeIn K cd_line "line_of_deed" = true)
    (k_line : PySem.W.keepIn K (.ref f_line) = true)
    (a_dline : PySem.W.nsIn K mainGlobals "deed_of_line" = some (some (.ref f_dline)))
    (l_dline : K.lookup f_dline = some ⟨oc_dline, od_dline, .func (PySem.W.fnOf "deed_of_line" "deed_of_line" (defArgs s_deed_of_line) (defBody s_deed_of_line) (defScope s_deed_of_line) .none kV_dline dc_dline pm_dline an_dline cd_dline ct_dline), sl_dline⟩)
    (c_dline : PySem.W.codeIn K cd_dline "deed_of_line" = true)
    (k_dline : PySem.W.keepIn K (.ref f_dline) = true)
    (a_lines : PySem.W.nsIn K mainGlobals "lines_of" = some (some (.ref f_lines)))
    (l_lines : K.lookup f_lines = some ⟨oc_lines, od_lines, .func (PySem.W.fnOf "lines_of" "lines_of" (defArgs s_lines_of) (defBody s_lines_of) (defScope s_lines_of) .none kV_lines dc_lines pm_lines an_lines cd_lines ct_lines), sl_lines⟩)
    (c_lines : PySem.W.codeIn K cd_lines "lines_of" = true)
    (k_lines : PySem.W.keepIn K (.ref f_lines) = true)
    (a_read : PySem.W.nsIn K mainGlobals "read_history" = some (some (.ref f_read)))
    (l_read : K.lookup f_read = some ⟨oc_read, od_read, .func (PySem.W.fnOf "read_history" "read_history" (defArgs s_read_history) (defBody s_read_history) (defScope s_read_history) .none kV_read dc_read pm_read an_read cd_read ct_read), sl_read⟩)
    (c_read : PySem.W.codeIn K cd_read "read_history" = true)
    (k_read : PySem.W.keepIn K (.ref f_read) = true)
    (a_htext : PySem.W.nsIn K mainGlobals "history_text" = some (some (.ref f_htext)))
    (l_htext : K.lookup f_htext = some ⟨oc_htext, od_htext, .func (PySem.W.fnOf "history_text" "history_text" (defArgs s_history_text) (defBody s_history_text) (defScope s_history_text) .none kV_htext dc_htext pm_htext an_htext cd_htext ct_htext), sl_htext⟩)
    (c_htext : PySem.W.codeIn K cd_htext "history_text" = true)
    (k_htext : PySem.W.keepIn K (.ref f_htext) = true)
    (a_deeds : PySem.W.nsIn K mainGlobals "_law_deeds" = some (some (.ref f_deeds)))
    (l_deeds : K.lookup f_deeds = some ⟨oc_deeds, od_deeds, .func (PySem.W.fnOf "_law_deeds" "_law_deeds" (defArgs s_deeds) (defBody s_deeds) (defScope s_deeds) .none kV_deeds dc_deeds pm_deeds an_deeds cd_deeds ct_deeds), sl_deeds⟩)
    (c_deeds : PySem.W.codeIn K cd_deeds "_law_deeds" = true)
    (k_deeds : PySem.W.keepIn K (.ref f_deeds) = true)
    (a_number : PySem.W.nsIn K mainGlobals "_law_number" = some (some (.ref f_number)))
    (l_number : K.lookup f_number = some ⟨oc_number, od_number, .func (PySem.W.fnOf "_law_number" "_law_number" (defArgs s_number) (defBody s_number) (defScope s_number) .none kV_number dc_number pm_number an_number cd_number ct_number), sl_number⟩)
    (c_number : PySem.W.codeIn K cd_number "_law_number" = true)
    (k_number : PySem.W.keepIn K (.ref f_number) = true)
    (a_deedof : PySem.W.nsIn K mainGlobals "_law_deed_of" = some (some (.ref f_deedof)))
    (l_deedof : K.lookup f_deedof = some ⟨oc_deedof, od_deedof, .func (PySem.W.fnOf "_law_deed_of" "_law_deed_of" (defArgs s_deed_of) (defBody s_deed_of) (defScope s_deed_of) .none kV_deedof dc_deedof pm_deedof an_deedof cd_deedof ct_deedof), sl_deedof⟩)
    (c_deedof : PySem.W.codeIn K cd_deedof "_law_deed_of" = true)
    (k_deedof : PySem.W.keepIn K (.ref f_deedof) = true)
    (a_due : PySem.W.nsIn K mainGlobals "_law_due" = some (some (.ref f_due)))
    (l_due : K.lookup f_due = some ⟨oc_due, od_due, .func (PySem.W.fnOf "_law_due" "_law_due" (defArgs s_due) (defBody s_due) (defScope s_due) .none kV_due dc_due pm_due an_due cd_due ct_due), sl_due⟩)
    (c_due : PySem.W.codeIn K cd_due "_law_due" = true)
    (k_due : PySem.W.keepIn K (.ref f_due) = true)
    (a_tried : PySem.W.nsIn K mainGlobals "_law_tried" = some (some (.ref f_tried)))
    (l_tried : K.lookup f_tried = some ⟨oc_tried, od_tried, .func (PySem.W.fnOf "_law_tried" "_law_tried" (defArgs s_tried) (defBody s_tried) (defScope s_tried) .none kV_tried dc_tried pm_tried an_tried cd_tried ct_tried), sl_tried⟩)
    (c_tried : PySem.W.codeIn K cd_tried "_law_tried" = true)
    (k_tried : PySem.W.keepIn K (.ref f_tried) = true)
    (a_sptext : PySem.W.nsIn K mainGlobals "_law_spoilt_text" = some (some (.ref f_sptext)))
    (l_sptext : K.lookup f_sptext = some ⟨oc_sptext, od_sptext, .func (PySem.W.fnOf "_law_spoilt_text" "_law_spoilt_text" (defArgs s_spoilt_text) (defBody s_spoilt_text) (defScope s_spoilt_text) .none kV_sptext dc_sptext pm_sptext an_sptext cd_sptext ct_sptext), sl_sptext⟩)
    (c_sptext : PySem.W.codeIn K cd_sptext "_law_spoilt_text" = true)
    (k_sptext : PySem.W.keepIn K (.ref f_sptext) = true)
    (a_law : PySem.W.nsIn K mainGlobals "law" = some (some (.ref f_law)))
    (l_law : K.lookup f_law = some ⟨oc_law, od_law, .func (PySem.W.fnOf "law" "law" (defArgs s_law) (defBody s_law) (defScope s_law) .none kV_law dc_law pm_law an_law cd_law ct_law), sl_law⟩)
    (c_law : PySem.W.codeIn K cd_law "law" = true)
    (k_law : PySem.W.keepIn K (.ref f_law) = true)
    (g_DIGITS : PySem.W.nsIn K mainGlobals "DIGITS" = some (some (.str "0123456789" tD)))
    (g_MOST_DEVICES : PySem.W.nsIn K mainGlobals "MOST_DEVICES" = some (some (.int 3 tM)))
    (g_KINDS : PySem.W.nsIn K mainGlobals "KINDS" = some (some (.ref AK)))
    (g_LEADING : PySem.W.nsIn K mainGlobals "LEADING" = some (some (.ref AL)))
    (z_len : PySem.W.nsIn K mainGlobals "len" = some none)
    (z_int : PySem.W.nsIn K mainGlobals "int" = some none)
    (z_range : PySem.W.nsIn K mainGlobals "range" = some none)
    (z_enumerate : PySem.W.nsIn K mainGlobals "enumerate" = some none)
    (z_isinstance : PySem.W.nsIn K mainGlobals "isinstance" = some none)
    (z_list : PySem.W.nsIn K mainGlobals "list" = some none)
    (z_tuple : PySem.W.nsIn K mainGlobals "tuple" = some none)
    (z_str : PySem.W.nsIn K mainGlobals "str" = some none)
    (z_bool : PySem.W.nsIn K mainGlobals "bool" = some none)
    (z_all : PySem.W.nsIn K mainGlobals "all" = some none)
    (z_max : PySem.W.nsIn K mainGlobals "max" = some none)
    (z_zip : PySem.W.nsIn K mainGlobals "zip" = some none)
    (kAK : K.lookup AK = some ⟨.type "tuple", odAK, .seq #[.str "read" t1, .str "jump" t2, .str "anew" t3, .str "give" t4, .str "take" t5] nnAK, slAK⟩)
    (kAL : K.lookup AL = some ⟨.type "tuple", odAL, .seq #[.str "read" t6, .str "jump" t7] nnAL, slAL⟩)
    : ∃ fd : FuncData, (∀ (s : Shared) (v : Value), BindsTo s fd ⟨[v], []⟩ [("_law_script", v)]) ∧ ∀ base : Heap, K.In base → base.Ns mainGlobals mg → FnOk l.prog w K mg base CX0 7 fa fd ["_law_script"] (spLaw K) := by
  have e := hfa.symm.trans (PySem.W.mg_of X G a_law)
  cases e
  have T : Blt mg := ⟨PySem.W.mg_none_of X G z_len, PySem.W.mg_none_of X G z_int, PySem.W.mg_none_of X G z_range, PySem.W.mg_none_of X G z_enumerate, PySem.W.mg_none_of X G z_isinstance, PySem.W.mg_none_of X G z_list, PySem.W.mg_none_of X G z_tuple, PySem.W.mg_none_of X G z_str, PySem.W.mg_none_of X G z_bool, PySem.W.mg_none_of X G z_all, PySem.W.mg_none_of X G z_max, PySem.W.mg_none_of X G z_zip⟩
  have TE_TX : ErrF K mg "BadText" C_TX f_TXinit "line" := ⟨PySem.W.mg_of X G aTX, ⟨⟨_, _, _, _, _, _, _, _, _, _, _, _, _, _, _, oTX, rTX⟩, sTX, bTX, tTX, kTX⟩, ⟨gaTX, ggTX, bTX, hdTX⟩, iTX, tyTX, noTX, icTX, seTX⟩
  have hAK : ∀ H, SqT K H AK (kindsS.map V.str) := (sqt_of kAK (Nat.le_of_ble_eq_true rfl) (.cons ⟨_, rfl⟩ (.cons ⟨_, rfl⟩ (.cons ⟨_, rfl⟩ (.cons ⟨_, rfl⟩ (.cons ⟨_, rfl⟩ (.nil)))))))
  have hAL : ∀ H, SqT K H AL (leadS.map V.str) := (sqt_of kAL (Nat.le_of_ble_eq_true rfl) (.cons ⟨_, rfl⟩ (.cons ⟨_, rfl⟩ (.nil))))
  have HC : HiCst K mg AK AL tD tM := { g_DIGITS := PySem.W.mg_of X G g_DIGITS, g_MOST_DEVICES := PySem.W.mg_of X G g_MOST_DEVICES, g_KINDS := PySem.W.mg_of X G g_KINDS, g_LEADING := PySem.W.mg_of X G g_LEADING, hK := hAK, hL := hAL }
  have F_fresh := fun_mk (st := s_fresh) l_fresh c_fresh k_fresh
  have b_fresh := F_fresh.binds (ps := ["_law_script"]) fun _ _ _ _ _ _ us hl => match us, hl with | [_], _ => rfl
  have F_fill := fun_mk (st := s_fill) l_fill c_fill k_fill
  have b_fill := F_fill.binds (ps := ["_law_state"]) fun _ _ _ _ _ _ us hl => match us, hl with | [_], _ => rfl
  have F_take := fun_mk (st := s_take) l_take c_take k_take
  have b_take := F_take.binds (ps := ["_law_state", "_law_many"]) fun _ _ _ _ _ _ us hl => match us, hl with | [_, _], _ => rfl
  have F_one := fun_mk (st := s_one) l_one c_one k_one
  have b_one := F_one.binds (ps := ["_law_state", "_law_things"]) fun _ _ _ _ _ _ us hl => match us, hl with | [_, _], _ => rfl
  have F_same := fun_mk (st := s_same) l_same c_same k_same
  have b_same := F_same.binds (ps := ["_law_found", "_law_due_here"]) fun _ _ _ _ _ _ us hl => match us, hl with | [_, _], _ => rfl
  have F_handed := fun_mk (st := s_handed) l_handed c_handed k_handed
  have b_handed := F_handed.binds (ps := ["_law_state", "_law_things"]) fun _ _ _ _ _ _ us hl => match us, hl with | [_, _], _ => rfl
  have F_deep := fun_mk (st := s_deep) l_deep c_deep k_deep
  have b_deep := F_deep.binds (ps := ["_law_state", "_law_x"]) fun _ _ _ _ _ _ us hl => match us, hl with | [_, _], _ => rfl
  have F_TXinit := fun_mk (st := s_BadText_init) l_TXinit c_TXinit k_TXinit
  have b_TXinit := F_TXinit.binds (ps := ["self", "line"]) fun _ _ _ _ _ _ us hl => match us, hl with | [_, _], _ => rfl
  have F_isfig := fun_mk (st := s_is_figures) l_isfig c_isfig k_isfig
  have b_isfig := F_isfig.binds (ps := ["part"]) fun _ _ _ _ _ _ us hl => match us, hl with | [_], _ => rfl
  have F_line := fun_mk (st := s_line_of_deed) l_line c_line k_line
  have b_line := F_line.binds (ps := ["deed"]) fun _ _ _ _ _ _ us hl => match us, hl with | [_], _ => rfl
  have F_dline := fun_mk (st := s_deed_of_line) l_dline c_dline k_dline
  have b_dline := F_dline.binds (ps := ["line"]) fun _ _ _ _ _ _ us hl => match us, hl with | [_], _ => rfl
  have F_lines := fun_mk (st := s_lines_of) l_lines c_lines k_lines
  have b_lines := F_lines.binds (ps := ["text"]) fun _ _ _ _ _ _ us hl => match us, hl with | [_], _ => rfl
  have F_read := fun_mk (st := s_read_history) l_read c_read k_read
  have b_read := F_read.binds (ps := ["text"]) fun _ _ _ _ _ _ us hl => match us, hl with | [_], _ => rfl
  have F_htext := fun_mk (st := s_history_text) l_htext c_htext k_htext
  have b_htext := F_htext.binds (ps := ["history"]) fun _ _ _ _ _ _ us hl => match us, hl with | [_], _ => rfl
  have F_deeds := fun_mk (st := s_deeds) l_deeds c_deeds k_deeds
  have b_deeds := F_deeds.binds (ps := ["_law_state"]) fun _ _ _ _ _ _ us hl => match us, hl with | [_], _ => rfl
  have F_number := fun_mk (st := s_number) l_number c_number k_number
  have b_number := F_number.binds (ps := ["_law_x"]) fun _ _ _ _ _ _ us hl => match us, hl with | [_], _ => rfl
  have F_deedof := fun_mk (st := s_deed_of) l_deedof c_deedof k_deedof
  have b_deedof := F_deedof.binds (ps := ["_law_line"]) fun _ _ _ _ _ _ us hl => match us, hl with | [_], _ => rfl
  have F_due := fun_mk (st := s_due) l_due c_due k_due
  have b_due := F_due.binds (ps := ["_law_x"]) fun _ _ _ _ _ _ us hl => match us, hl with | [_], _ => rfl
  have F_tried := fun_mk (st := s_tried) l_tried c_tried k_tried
  have b_tried := F_tried.binds (ps := ["_law_x"]) fun _ _ _ _ _ _ us hl => match us, hl with | [_], _ => rfl
  have F_sptext := fun_mk (st := s_spoilt_text) l_sptext c_sptext k_sptext
  have b_sptext := F_sptext.binds (ps := ["_law_state", "_law_x"]) fun _ _ _ _ _ _ us hl => match us, hl with | [_, _], _ => rfl
  have F_law := fun_mk (st := s_law) l_law c_law k_law
  refine ⟨PySem.W.fnOf "law" "law" (defArgs s_law) (defBody s_law) (defScope s_law) .none kV_law dc_law pm_law an_law cd_law ct_law, fun s v => .of_eq rfl, fun base _ _ => ?_⟩
  have O_fresh : FnOk l.prog w K mg base CX0 1 f_fresh _ ["_law_script"] (spFresh K) := ok_fresh F_fresh T
  have D_fresh : DefOk l.prog w K mg base 1 "_law_fresh" f_fresh _ ["_law_script"] (spFresh K) := ⟨O_fresh, k_fresh, b_fresh, PySem.W.mg_of X G a_fresh⟩
  have O_fill : FnOk l.prog w K mg base CX0 1 f_fill _ ["_law_state"] spFill := ok_fill F_fill T
  have D_fill : DefOk l.prog w K mg base 1 "_law_fill" f_fill _ ["_law_state"] spFill := ⟨O_fill, k_fill, b_fill, PySem.W.mg_of X G a_fill⟩
  have O_take : FnOk l.prog w K mg base CX0 2 f_take _ ["_law_state", "_law_many"] spTake := ok_take F_take T D_fill
  have D_take : DefOk l.prog w K mg base 2 "_law_take" f_take _ ["_law_state", "_law_many"] spTake := ⟨O_take, k_take, b_take, PySem.W.mg_of X G a_take⟩
  have O_one : FnOk l.prog w K mg base CX0 3 f_one _ ["_law_state", "_law_things"] (spOneA K) := ok_oneA F_one T D_take
  have D_one : DefOk l.prog w K mg base 3 "_law_one" f_one _ ["_law_state", "_law_things"] (spOneA K) := ⟨O_one, k_one, b_one, PySem.W.mg_of X G a_one⟩
  have O_same : FnOk l.prog w K mg base CX0 5 f_same _ ["_law_found", "_law_due_here"] (spSame 5) := (ok_same (d := 4) F_same T ⟨(ok_same (d := 3) F_same T ⟨(ok_same (d := 2) F_same T ⟨(ok_same (d := 1) F_same T ⟨(ok_same (d := 0) F_same T ⟨(ok_none.imp fun _ _ _ _ ⟨_, _, _, h, _⟩ => h.elim), k_same, b_same, PySem.W.mg_of X G a_same⟩), k_same, b_same, PySem.W.mg_of X G a_same⟩), k_same, b_same, PySem.W.mg_of X G a_same⟩), k_same, b_same, PySem.W.mg_of X G a_same⟩), k_same, b_same, PySem.W.mg_of X G a_same⟩)
  have D_same : DefOk l.prog w K mg base 5 "_law_same" f_same _ ["_law_found", "_law_due_here"] (spSame 5) := ⟨O_same, k_same, b_same, PySem.W.mg_of X G a_same⟩
  have O_handed : FnOk l.prog w K mg base CX0 3 f_handed _ ["_law_state", "_law_things"] spHanded := ok_handed F_handed T D_take
  have D_handed : DefOk l.prog w K mg base 3 "_law_handed" f_handed _ ["_law_state", "_law_things"] spHanded := ⟨O_handed, k_handed, b_handed, PySem.W.mg_of X G a_handed⟩
  have O_deep : FnOk l.prog w K mg base CX0 1 f_deep _ ["_law_state", "_law_x"] spDeep0 := ok_deep0 F_deep T
  have D_deep : DefOk l.prog w K mg base 1 "_law_deep" f_deep _ ["_law_state", "_law_x"] spDeep0 := ⟨O_deep, k_deep, b_deep, PySem.W.mg_of X G a_deep⟩
  have D_deepS : DefOk l.prog w K mg base 4 "_law_deep" f_deep _ ["_law_state", "_law_x"] spDeep1 := ⟨ok_deep1 F_deep T D_deep D_handed, k_deep, b_deep, PySem.W.mg_of X G a_deep⟩
  have D_deepR : DefOk l.prog w K mg base 5 "_law_deep" f_deep _ ["_law_state", "_law_x"] spDeep2 := ⟨ok_deep2 F_deep T D_deepS D_handed, k_deep, b_deep, PySem.W.mg_of X G a_deep⟩
  have O_TXinit : FnOk l.prog w K mg base CX0 1 f_TXinit _ ["self", "line"] (spErrI C_TX "line") := ok_bad_text F_TXinit TE_TX.T TE_TX.no
  have IE_TX : ErrI l.prog w K mg base C_TX f_TXinit _ "line" := ⟨O_TXinit, b_TXinit⟩
  have O_isfig : FnOk l.prog w K mg base CX0 1 f_isfig _ ["part"] spIsFig := ok_is_fig F_isfig T HC
  have D_is_figures : DefOk l.prog w K mg base 1 "is_figures" f_isfig _ ["part"] spIsFig := ⟨O_isfig, k_isfig, b_isfig, PySem.W.mg_of X G a_isfig⟩
  have O_line : FnOk l.prog w K mg base CX0 1 f_line _ ["deed"] spLine := ok_line F_line T
  have D_line_of_deed : DefOk l.prog w K mg base 1 "line_of_deed" f_line _ ["deed"] spLine := ⟨O_line, k_line, b_line, PySem.W.mg_of X G a_line⟩
  have O_dline : FnOk l.prog w K mg base CX0 2 f_dline _ ["line"] spDeedOf := ok_deed_of_line F_dline T HC D_is_figures D_line_of_deed
  have D_deed_of_line : DefOk l.prog w K mg base 2 "deed_of_line" f_dline _ ["line"] spDeedOf := ⟨O_dline, k_dline, b_dline, PySem.W.mg_of X G a_dline⟩
  have O_lines : FnOk l.prog w K mg base CX0 1 f_lines _ ["text"] spLines := ok_lines_of F_lines
  have D_lines_of : DefOk l.prog w K mg base 1 "lines_of" f_lines _ ["text"] spLines := ⟨O_lines, k_lines, b_lines, PySem.W.mg_of X G a_lines⟩
  have O_htext : FnOk l.prog w K mg base CX0 2 f_htext _ ["history"] spHistText := ok_hist_text F_htext D_line_of_deed
  have D_history_text : DefOk l.prog w K mg base 2 "history_text" f_htext _ ["history"] spHistText := ⟨O_htext, k_htext, b_htext, PySem.W.mg_of X G a_htext⟩
  have BK_history_text : KBn K _ ["history"] 0 ["history"] oneR oneR := Lm.Fun.kone0 F_htext fun _ _ _ _ _ _ _ => rfl
  have D_read_history : DefOkX l.prog w K mg base 3 "read_history" f_read _ ["text"] (spRead C_TX) := ⟨ok_read F_read T TE_TX IE_TX D_lines_of D_deed_of_line, k_read, b_read, PySem.W.mg_of X G a_read⟩
  have BK_read_history : KBn K _ ["text"] 0 ["text"] oneR oneR := Lm.Fun.kone0 F_read fun _ _ _ _ _ _ _ => rfl
  have O_deeds : FnOk l.prog w K mg base CX0 4 f_deeds _ ["_law_state"] spDeeds := ok_deeds F_deeds T D_take D_one
  have D_deeds : DefOk l.prog w K mg base 4 "_law_deeds" f_deeds _ ["_law_state"] spDeeds := ⟨O_deeds, k_deeds, b_deeds, PySem.W.mg_of X G a_deeds⟩
  have O_number : FnOk l.prog w K mg base CX0 1 f_number _ ["_law_x"] spNumL := ok_number F_number T
  have D_number : DefOk l.prog w K mg base 1 "_law_number" f_number _ ["_law_x"] spNumL := ⟨O_number, k_number, b_number, PySem.W.mg_of X G a_number⟩
  have O_deedof : FnOk l.prog w K mg base CX0 2 f_deedof _ ["_law_line"] spDeedL := ok_deed_of F_deedof T D_number
  have D_deed_of : DefOk l.prog w K mg base 2 "_law_deed_of" f_deedof _ ["_law_line"] spDeedL := ⟨O_deedof, k_deedof, b_deedof, PySem.W.mg_of X G a_deedof⟩
  have O_due : FnOk l.prog w K mg base CX0 3 f_due _ ["_law_x"] spOut := ok_due F_due T D_deed_of
  have D_due : DefOk l.prog w K mg base 3 "_law_due" f_due _ ["_law_x"] spOut := ⟨O_due, k_due, b_due, PySem.W.mg_of X G a_due⟩
  have O_tried : FnOk l.prog w K mg base CX0 4 f_tried _ ["_law_x"] spOut := ok_tried F_tried TE_TX D_read_history
  have D_tried : DefOk l.prog w K mg base 4 "_law_tried" f_tried _ ["_law_x"] spOut := ⟨O_tried, k_tried, b_tried, PySem.W.mg_of X G a_tried⟩
  have O_sptext : FnOk l.prog w K mg base CX0 4 f_sptext _ ["_law_state", "_law_x"] spSpoil := ok_spoilt F_sptext T D_take D_one
  have D_spoilt_text : DefOk l.prog w K mg base 4 "_law_spoilt_text" f_sptext _ ["_law_state", "_law_x"] spSpoil := ⟨O_sptext, k_sptext, b_sptext, PySem.W.mg_of X G a_sptext⟩
  exact ok_law F_law T D_fresh D_take D_deeds D_deepR D_same D_spoilt_text D_tried D_due D_history_text BK_history_text D_read_history BK_read_history
theorem walk {l : PySem.W.OpenLaw} {q : Program} {loose : List Str} {XP : (Str → Option Value) → Heap → Prop} {YP : World → Heap → Prop} {d : DefRec} {K : Params → PySem.W.Frag} (hn : l.most = some 63) (hdf : d.params.defaults = [])
    (hY : ∀ (w : World) (h : Heap), YP w h → (K w.params).In h)
    (F : ∀ (w : World) (mg : Str → Option Value) (fa : Addr) (h : Heap), (K w.params).In h → h.Ns mainGlobals mg → mg d.name = some (.ref fa) →
      ∃ fd : FuncData, (∀ (s : Shared) (u : Value), BindsTo s fd ⟨[u], []⟩ [("_law_script", u)]) ∧ ∀ base : Heap, (K w.params).In base → base.Ns mainGlobals mg → FnOk l.prog w (K w.params) mg base CX0 7 fa fd ["_law_script"] (spLaw (K w.params))) :
    PySem.W.WalkO q loose XP YP l.row.toRowW d [] (fun f vs => PySem.call f vs) :=
  L2.walk_of (n := 63) (k := 7) (x := "_law_script") (CX := fun _ => CX0) (sp := fun w => spLaw (K w.params)) hn (by decide) hdf ⟨rfl, by decide, by decide⟩ hY F (fun _ _ a ns hl _ hS => ⟨a, ns, rfl, hS, hl, fun _ => rfl⟩) fun _ _ _ _ _ z => z
end Lm

open PySem PySem.W PyProof.Rows
set_option maxRecDepth 100000 in
set_option maxHeartbeats 0 in
theorem PySem.Challenge.cw_leafmarks_k30_history_texts_holds : PySem.Challenge.rw_leafmarks_k30_history_texts.Holds := by
  w_on; o_law; k_head; (case hw => w_witness2)
  k_fill
  refine Lm.walk (l := PySem.Challenge.rw_leafmarks_k30_history_texts) rfl rfl (fun w h Y => PySem.W.kIn_of Y) ?F
  case F =>
    intro w mg fa h KX G hmg
    refine' Lm.all_mk KX G hmg ?a_fresh ?l_fresh ?c_fresh ?k_fresh ?a_fill ?l_fill ?c_fill ?k_fill ?a_take ?l_take ?c_take ?k_take ?a_one ?l_one ?c_one ?k_one ?a_same ?l_same ?c_same ?k_same ?a_handed ?l_handed ?c_handed ?k_handed ?a_deep ?l_deep ?c_deep ?k_deep ?aTX ?oTX ?rTX ?sTX ?bTX ?tTX ?kTX ?gaTX ?ggTX ?hdTX ?iTX ?tyTX ?noTX ?icTX ?seTX ?l_TXinit ?c_TXinit ?k_TXinit ?a_isfig ?l_isfig ?c_isfig ?k_isfig ?a_line ?l_line ?c_line ?k_line ?a_dline ?l_dline ?c_dline ?k_dline ?a_lines ?l_lines ?c_lines ?k_lines ?a_read ?l_read ?c_read ?k_read ?a_htext ?l_htext ?c_htext ?k_htext ?a_deeds ?l_deeds ?c_deeds ?k_deeds ?a_number ?l_number ?c_number ?k_number ?a_deedof ?l_deedof ?c_deedof ?k_deedof ?a_due ?l_due ?c_due ?k_due ?a_tried ?l_tried ?c_tried ?k_tried ?a_sptext ?l_sptext ?c_sptext ?k_sptext ?a_law ?l_law ?c_law ?k_law ?g_DIGITS ?g_MOST_DEVICES ?g_KINDS ?g_LEADING ?z_len ?z_int ?z_range ?z_enumerate ?z_isinstance ?z_list ?z_tuple ?z_str ?z_bool ?z_all ?z_max ?z_zip ?kAK ?kAL
    (case a_fresh => k_is)
    (case l_fresh => k_is)
    (case c_fresh => k_is)
    (case k_fresh => k_is)
    (case a_fill => k_is)
    (case l_fill => k_is)
    (case c_fill => k_is)
    (case k_fill => k_is)
    (case a_take => k_is)
    (case l_take => k_is)
    (case c_take => k_is)
    (case k_take => k_is)
    (case a_one => k_is)
    (case l_one => k_is)
    (case c_one => k_is)
    (case k_one => k_is)
    (case a_same => k_is)
    (case l_same => k_is)
    (case c_same => k_is)
    (case k_same => k_is)
    (case a_handed => k_is)
    (case l_handed => k_is)
    (case c_handed => k_is)
    (case k_handed => k_is)
    (case a_deep => k_is)
    (case l_deep => k_is)
    (case c_deep => k_is)
    (case k_deep => k_is)
    (case aTX => k_is)
    (case oTX => k_is)
    (case rTX => rfl)
    (case sTX => k_is)
    (case bTX => k_is)
    (case tTX => k_is)
    (case kTX => k_is)
    (case gaTX => k_is)
    (case ggTX => k_is)
    (case hdTX => k_is)
    (case iTX => k_is)
    (case tyTX => k_is)
    (case noTX => k_is)
    (case icTX => k_is)
    (case seTX => k_is)
    (case l_TXinit => k_is)
    (case c_TXinit => k_is)
    (case k_TXinit => k_is)
    (case a_isfig => k_is)
    (case l_isfig => k_is)
    (case c_isfig => k_is)
    (case k_isfig => k_is)
    (case a_line => k_is)
    (case l_line => k_is)
    (case c_line => k_is)
    (case k_line => k_is)
    (case a_dline => k_is)
    (case l_dline => k_is)
    (case c_dline => k_is)
    (case k_dline => k_is)
    (case a_lines => k_is)
    (case l_lines => k_is)
    (case c_lines => k_is)
    (case k_lines => k_is)
    (case a_read => k_is)
    (case l_read => k_is)
    (case c_read => k_is)
    (case k_read => k_is)
    (case a_htext => k_is)
    (case l_htext => k_is)
    (case c_htext => k_is)
    (case k_htext => k_is)
    (case a_deeds => k_is)
    (case l_deeds => k_is)
    (case c_deeds => k_is)
    (case k_deeds => k_is)
    (case a_number => k_is)
    (case l_number => k_is)
    (case c_number => k_is)
    (case k_number => k_is)
    (case a_deedof => k_is)
    (case l_deedof => k_is)
    (case c_deedof => k_is)
    (case k_deedof => k_is)
    (case a_due => k_is)
    (case l_due => k_is)
    (case c_due => k_is)
    (case k_due => k_is)
    (case a_tried => k_is)
    (case l_tried => k_is)
    (case c_tried => k_is)
    (case k_tried => k_is)
    (case a_sptext => k_is)
    (case l_sptext => k_is)
    (case c_sptext => k_is)
    (case k_sptext => k_is)
    (case a_law => k_is)
    (case l_law => k_is)
    (case c_law => k_is)
    (case k_law => k_is)
    (case g_DIGITS => k_is)
    (case g_MOST_DEVICES => k_is)
    (case g_KINDS => k_is)
    (case g_LEADING => k_is)
    (case z_len => k_is)
    (case z_int => k_is)
    (case z_range => k_is)
    (case z_enumerate => k_is)
    (case z_isinstance => k_is)
    (case z_list => k_is)
    (case z_tuple => k_is)
    (case z_str => k_is)
    (case z_bool => k_is)
    (case z_all => k_is)
    (case z_max => k_is)
    (case z_zip => k_is)
    (case kAK => k_is)
    (case kAL => k_is)
