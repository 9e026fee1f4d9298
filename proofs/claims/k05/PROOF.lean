import PyProof.Rows.All
import Wide.All
import OpenK.AllK
import Wide.FinOn
import PyProof.EqKinds
import HandS.ForMost
import HandS.IsInst
import HandS.OwnEq
import PyProof.InstNe
import PyProof.Draws
import KE.GoesEnum
import KE.GoesMore
import KE.KOpsOwn
import HandS.Walk
import HandS.Conv
import HandS.Evl
import HandS.Zip
import HandS.Property
import HandS.MakeKwOnly
import HandS.Style
import HandS.WordsExc
import HandS.ExcOwn
import HandS.TryOnly
import HandS.TupMul
import HandS.ExcInit
import HandS.ExcField
import KE.KCallOwn
import HandS.Lambda
import HandS.TryMany
import KE.KListMore
import HandS.ExcValue
import HandS.MakeKw
import HandS.DictComp
import KE.KEqNest
import KE.KExcIs
import KE.KDictLaw
import HandS.EndTab
import HandS.HeadEnd
import PyProof.ReprRoads
import PyProof.ReprLen
import PyProof.ReprNest
import PyProof.ReprDict
import HandS.Nested
import HandS.NestedK
import KE.KNestM
import PySem.Challenge.RW_leafmarks_k05_editions_refused
set_option Elab.async false
set_option linter.all false
set_option maxRecDepth 100000
set_option maxHeartbeats 16000000
namespace Lm
open PySem L2
section
variable {X : Cx} {CX : CXT} {k : Nat} {f C : Addr} {fd : FuncData} {ps : List Str} {sp : Sp} {E : XK} {pins : List (Addr × Obj)} {σ : St} {H : Hp} {s : Shared}
/-- the callee runs under another around of the same frames -/
theorem run_in {A : Around} {Q : VK} {us : List Value} {vs : List V} (F : FnOk X.prog X.w X.K X.mg X.base CX k f fd ps sp) (hr : Room k A) (e0 : Env0 X.prog X.w X.K X.mg X.base A X.stack s H) (hb : Binds X.K fd ps [])
    (hx : Passes CX X E) (I : Inv X pins σ H s) (r : Vals vs us) (h : sp vs H Q E) : wpAny (model X.prog X.w) A (call (.ref f) us) (EP X pins σ Q) X.xe s := by
  have hl : us.length = ps.length := by rw [← r.length]; exact F.len _ _ _ _ h
  have hb' : BindsTo s fd ⟨us, []⟩ (ps.zip us) := by
    have := hb s us I.kIn (by simpa using hl)
    simpa using this
  refine wpAny_call (codeAny_mono (F.run A X.stack s H ⟨us, []⟩ us vs Q E hr e0 hb' r h) fun r s' hq => ?_)
  cases r with
  | error e => exact hx pins σ H s e s' I hq
  | ok fl =>
    cases fl with
    | ret u => exact I.after hq
    | next => exact False.elim hq
    | brk => exact False.elim hq
    | cont => exact False.elim hq
/-- len(x), x an instance with its own __len__ -/
def rLenOwn (C : Addr) (sp : Sp) (E : XK) : List V → Hp → VK → Prop := fun xs H Q => ∃ a dx fs, xs = [.ref a] ∧ H a = some (.ins C dx fs) ∧
  sp [.ref a] H (fun z H' => ∃ n : Nat, z = .int n ∧ n < 2 ^ 62 ∧ Q (.int n) H') E
theorem call_lenOwn (F : FnOk X.prog X.w X.K X.mg X.base CX k f fd ps sp) (hs : PySem.W.findIn X.K (.ref C) "__len__" = some (some (.ref f))) (hf : PySem.W.isFn X.K (.ref f) = true) (hb : Binds X.K fd ps []) (hr : Room (k + 1) X.A) (hx : Passes CX X E) :
    CallR X (.builtin "len") (rLenOwn C sp E) := by
  intro pins s σ H xs us Q I r h
  obtain ⟨a, dx, fs, rfl, ha, q⟩ := h
  obtain ⟨u, rfl, ru⟩ := r.one
  cases (show u = Value.ref a from ru)
  obtain ⟨mA, J, _⟩ := ins_get I.hok ha
  obtain ⟨od, J, _⟩ := J.look
  obtain ⟨m, hF⟩ := I.fr
  refine PySem.W.len_K hF I.ok.mod.kin J hs hf (wpAny_mono (run_in (us := [.ref a]) (vs := [.ref a]) F hr.in1 I.env0.in1 hb hx I (.cons rfl .nil) q) (fun w s' z => ?_) fun _ _ x => x)
  obtain ⟨z', H', I', rz, n, ez, hn, qz⟩ := z
  subst ez
  obtain ⟨t, e⟩ := (show ∃ t, w = Value.int n t from rz)
  subst e
  refine ⟨⟨by omega, by omega⟩, .int n, H', I'.tok _, ⟨_, rfl⟩, qz⟩
/-- x in y, y an instance with its own __contains__ -/
def rInOwn (C : Addr) (sp : Sp) (E : XK) (neg : Bool) : R2 := fun x y H Q => ∃ a dx fs, y = .ref a ∧ H a = some (.ins C dx fs) ∧
  sp [y, x] H (fun z H' => ∃ b : Bool, z = .bl b ∧ Q (.bl (if neg then !b else b)) H') E
theorem op_inOwn (F : FnOk X.prog X.w X.K X.mg X.base CX k f fd ps sp) (hs : PySem.W.findIn X.K (.ref C) "__contains__" = some (some (.ref f))) (hf : PySem.W.isFn X.K (.ref f) = true) (hb : Binds X.K fd ps []) (hr : Room k X.A) (hx : Passes CX X E) :
    OpR X (compareOp .In) (rInOwn C sp E false) := by
  intro pins s σ H x y v u Q I rx ry h
  obtain ⟨a, dx, fs, rfl, ha, q⟩ := h
  cases (show u = Value.ref a from ry)
  obtain ⟨mA, J, _⟩ := ins_get I.hok ha
  obtain ⟨od, J, _⟩ := J.look
  obtain ⟨m, hF⟩ := I.fr
  refine PySem.W.in_K hF I.ok.mod.kin J hs hf (wpAny_mono (run_in (us := [.ref a, v]) (vs := [.ref a, x]) F hr I.env0 hb hx I (.cons rfl (.cons rx .nil)) q) (fun w s' z => ?_) fun _ _ x => x)
  obtain ⟨z', H', I', rz, b, ez, qz⟩ := z
  subst ez
  cases (show w = Value.bool b from rz)
  exact wpAny_truthy_bool ⟨.bl _, H', I', rfl, qz⟩
theorem op_notInOwn (F : FnOk X.prog X.w X.K X.mg X.base CX k f fd ps sp) (hs : PySem.W.findIn X.K (.ref C) "__contains__" = some (some (.ref f))) (hf : PySem.W.isFn X.K (.ref f) = true) (hb : Binds X.K fd ps []) (hr : Room k X.A) (hx : Passes CX X E) :
    OpR X (compareOp .NotIn) (rInOwn C sp E true) := by
  intro pins s σ H x y v u Q I rx ry h
  obtain ⟨a, dx, fs, rfl, ha, q⟩ := h
  cases (show u = Value.ref a from ry)
  obtain ⟨mA, J, _⟩ := ins_get I.hok ha
  obtain ⟨od, J, _⟩ := J.look
  obtain ⟨m, hF⟩ := I.fr
  refine PySem.W.notIn_K hF I.ok.mod.kin J hs hf (wpAny_mono (run_in (us := [.ref a, v]) (vs := [.ref a, x]) F hr I.env0 hb hx I (.cons rfl (.cons rx .nil)) q) (fun w s' z => ?_) fun _ _ x => x)
  obtain ⟨z', H', I', rz, b, ez, qz⟩ := z
  subst ez
  cases (show w = Value.bool b from rz)
  exact wpAny_truthy_bool ⟨.bl _, H', I', rfl, qz⟩
theorem cmpBack {P : Value → Shared → Prop} {z : V} {v : Value} {s' : Shared} (r : RelV z v) (h : P v s') : PySem.W.CmpBack P v s' := by
  cases z with
  | non => cases (show v = Value.none from r); exact h
  | bl b => cases (show v = Value.bool b from r); exact h
  | int i => obtain ⟨t, e⟩ := (show ∃ t, v = Value.int i t from r); cases e; exact h
  | str i => obtain ⟨t, e⟩ := (show ∃ t, v = Value.str i t from r); cases e; exact h
  | byt i => obtain ⟨t, e⟩ := (show ∃ t, v = Value.bytes i t from r); cases e; exact h
  | flt i => obtain ⟨t, e⟩ := (show ∃ t, v = Value.float i t from r); cases e; exact h
  | ref a => cases (show v = Value.ref a from r); exact h
  | ty n => cases (show v = Value.type n from r); exact h
/-- x op y, both instances of the class at C that has its own def for it -/
def rBinOwn (C : Addr) (sp : Sp) (E : XK) : R2 := fun x y H Q => ∃ a dx fs b dy gs, x = .ref a ∧ y = .ref b ∧ H a = some (.ins C dx fs) ∧ H b = some (.ins C dy gs) ∧ sp [x, y] H Q E
theorem op_binOwn {op : Operator} (F : FnOk X.prog X.w X.K X.mg X.base CX k f fd ps sp) (hc : PySem.W.selfFirst X.K C = true) (hs : PySem.W.findIn X.K (.ref C) (PySem.dunder op.info.2) = some (some (.ref f))) (hf : PySem.W.isFn X.K (.ref f) = true) (hb : Binds X.K fd ps []) (hr : Room k X.A) (hx : Passes CX X E) :
    OpR X (binaryOp op) (rBinOwn C sp E) := by
  intro pins s σ H x y v u Q I rx ry h
  obtain ⟨a, dx, fs, b, dy, gs, rfl, rfl, ha, hb', q⟩ := h
  cases (show v = Value.ref a from rx)
  cases (show u = Value.ref b from ry)
  obtain ⟨mA, J, _⟩ := ins_get I.hok ha
  obtain ⟨mB, J', _⟩ := ins_get I.hok hb'
  obtain ⟨od, J, _⟩ := J.look
  obtain ⟨od', J', _⟩ := J'.look
  obtain ⟨m, hF⟩ := I.fr
  refine PySem.W.binop_K hF I.ok.mod.kin J J'.type hc hs hf (wpAny_mono (run_in (us := [.ref a, .ref b]) (vs := [.ref a, .ref b]) F hr I.env0 hb hx I (.cons rfl (.cons rfl .nil)) q) (fun w s' z => ?_) fun _ _ x => x)
  obtain ⟨z', H', I', rz, qz⟩ := z
  exact cmpBack rz ⟨z', H', I', rz, qz⟩
theorem op_cmpOwn {op : CmpOp} (hop : ∀ a b, compareOp op a b = richCompare op a b) (F : FnOk X.prog X.w X.K X.mg X.base CX k f fd ps sp) (hs : PySem.W.findIn X.K (.ref C) (cmpInfo op).2.1 = some (some (.ref f))) (hf : PySem.W.isFn X.K (.ref f) = true) (hb : Binds X.K fd ps []) (hr : Room k X.A) (hx : Passes CX X E) :
    OpR X (compareOp op) (rBinOwn C sp E) := by
  intro pins s σ H x y v u Q I rx ry h
  obtain ⟨a, dx, fs, b, dy, gs, rfl, rfl, ha, hb', q⟩ := h
  cases (show v = Value.ref a from rx)
  cases (show u = Value.ref b from ry)
  obtain ⟨mA, J, _⟩ := ins_get I.hok ha
  obtain ⟨mB, J', _⟩ := ins_get I.hok hb'
  obtain ⟨od, J, _⟩ := J.look
  obtain ⟨od', J', _⟩ := J'.look
  obtain ⟨m, hF⟩ := I.fr
  rw [hop]
  refine PySem.W.cmp_K (op := op) (tb := .ref C) hr.units0 hF I.ok.mod.kin J J'.type (by simp [PySem.W.notFirst]) hs hf (wpAny_mono (run_in (us := [.ref a, .ref b]) (vs := [.ref a, .ref b]) F hr I.env0 hb hx I (.cons rfl (.cons rfl .nil)) q) (fun w s' z => ?_) fun _ _ x => x)
  obtain ⟨z', H', I', rz, qz⟩ := z
  exact cmpBack rz ⟨z', H', I', rz, qz⟩
end
end Lm

namespace Lm
open PySem PySem.W PySem.Calls PyProof.Rows
section
variable {prog : Program} {w : World} {A : Around} {E : Value → Shared → Prop} {s : Shared} {K : Frag} {x C L f : Addr} {h₀ : Heap} {m : Str → Option Value} {ox : Obj} {od : Option Obj} {b tb : Value}
/-- != of an instance whose class has an own == and no own != -/
theorem ne_own {Q : Value → Shared → Prop} (hu : A.units + 1 < cLine) (Fr' : Fr h₀ L s.heap m) (X₀ : K.In h₀) (I : InstAt s.heap x ox C od) (hb : Looks (model prog w) s.heap (typeOf b) tb) (hn : notFirst K C tb = true)
    (hne : findIn K (.ref C) "__ne__" = some (some (.builtin "object.__ne__"))) (hobj : subIn K (.ref C) (.type "object") = some true)
    (hs : findIn K (.ref C) "__eq__" = some (some (.ref f))) (hf : isFn K (.ref f) = true)
    (h : wpAny (model prog w) A.in1 (call (.ref f) [.ref x, b]) (fun v s' => ∃ k, v = .bool k ∧ Q (.bool (!k)) s') E s) : wpAny (model prog w) A (richCompare .NotEq (.ref x) b) Q E s := by
  have X := X₀.keeps Fr'.keep
  have fin : ∀ (Q' : Option Value → Shared → Prop), (∀ k s', Q (.bool (!k)) s' → Q' (some (.bool (!k))) s') →
      wpAny (model prog w) A (call (.builtin "object.__ne__") ([.ref x] ++ [b]) >>= fun v => pure (some v)) Q' E s := by
    intro Q' hQ
    refine wpAny_bind (wpAny_call (codeAny_call_builtin PySem.F.cmp_object.ne.plain PySem.F.cmpEntry_ne ?_))
    refine @check_slot (model prog w) _ _ _ "object.__ne__" "object" "__ne__" (.ref x) [b] [] _ PySem.F.cmpKind_ne PySem.F.cmpSplit_ne (I.type.andThen (looks_subIn X hobj)) (PySem.F.cmpArgs_ne _ _) ?_
    unfold Builtin.«object.__ne__»
    repeat (first
      | with_reducible refine wpAny_cRoomFor hu ?_
      | (refine wpAny_bind (m := callSpecialIfBound? (.ref x) (Str.ofString "__eq__") [b])
          (ifBound_K X I hs hf (wpAny_mono h (fun r s' hr => by
            obtain ⟨k, rfl, hq⟩ := hr
            repeat (first | exact ⟨_, rfl, wpAny_pure (hQ k s' hq)⟩ | exact wpAny_pure (hQ k s' hq) | exact hQ k s' hq | exact wpAny_truthy_bool (hQ k s' hq) | (refine wpAny_bind (m := truthy (.bool _)) (wpAny_truthy_bool ?_)) | wp_step)) fun _ _ e => e)))
      | wp_step)
  have one : wpAny (model prog w) A (tryCompare (.ref x) "__ne__" b) (fun r s' => ∃ v, r = some v ∧ Q v s') E s := by
    simp only [tryCompare]
    refine wpAny_bind ?_
    simp only [callSpecialIfBound?, bindSpecialIfBound?]
    refine wpAny_holding (wpAny_bind (wpAny_bind (wpAny_bind (I.type.here ((looks_findIn X hne).here ?_)))))
    refine wpAny_bind (wpAny_askSetting (wpAny_ite ?_))
    split
    · refine wpAny_bind ?_
      rw [PySem.F.cmp_object.ne.bind]
      refine wpAny_pure (wpAny_pure ?_)
      show wpAny _ _ (call _ _ >>= fun v => pure (some v)) _ _ _
      exact fin _ fun k s' q => wpAny_pure ⟨_, rfl, q⟩
    · refine wpAny_tryCatch (wpAny_bind ?_)
      rw [PySem.F.cmp_object.ne.bind]
      refine wpAny_pure (wpAny_pure ?_)
      show wpAny _ _ (call _ _ >>= fun v => pure (some v)) _ _ _
      exact fin _ fun k s' q => wpAny_pure ⟨_, rfl, q⟩
  unfold richCompare
  simp only [oneThing_ref]
  refine wpAny_holding (wpAny_bind (wpAny_cRoomFor (Nat.lt_of_succ_lt hu) ?_))
  refine wpAny_bind (I.type.here (wpAny_bind (hb.here ?_)))
  split
  · rename_i q
    have e : subIn K tb (.ref C) = some false := by
      rcases Bool.or_eq_true_iff.mp hn with e | e
      · rw [beq_iff_eq.mp e] at q; simp at q
      · exact beq_iff_eq.mp e
    refine wpAny_bind ((looks_subIn X e).here ?_)
    simp only [Bool.false_eq_true, if_false]
    refine wpAny_bind (wpAny_mono one (fun r s' z => ?_) fun _ _ e => e)
    obtain ⟨v, rfl, hq⟩ := z
    exact wpAny_pure hq
  · refine wpAny_bind (wpAny_pure ?_)
    simp only [Bool.false_eq_true, if_false]
    refine wpAny_bind (wpAny_mono one (fun r s' z => ?_) fun _ _ e => e)
    obtain ⟨v, rfl, hq⟩ := z
    exact wpAny_pure hq
end
end Lm

namespace Lm
open PySem PySem.W PySem.Calls PyProof.Rows Builtin
theorem meets_enum1 {v : Value} {o : Obj} {H : Heap → Prop} (B : Begins v o H) :
    Meets (Builtin.«enumerate.__new__» ⟨[.type "enumerate", v], []⟩) (fun _ R s => H s.heap ∧
      R (.ok (.ret (.ref (s.heap.push o).objs.size))) { s with heap := (s.heap.push o).push { cls := .type "enumerate", data := .fields #[.none, .bool false, .ref s.heap.objs.size, rawInt 0, .none, .none] } }) :=
  .of_wp fun prog w A R s ⟨h1, h⟩ => by
    obtain ⟨hp, g, d, tk, os⟩ := s
    have hsub := sub_enumerate
    have q1 : ∀ {A' : Around} {E : Value → Shared → Prop} {Q : Value → Shared → Prop}, Q (.ref hp.objs.size) ⟨hp.push o, g, d, tk, os⟩ → wpAny (model prog w) A' (pyIter v) Q E ⟨hp, g, d, tk, os⟩ :=
      fun q => B.iter prog w _ _ ⟨hp, g, d, tk, os⟩ _ h1 q
    wp_walk using q1
    refine wpAny_stack_any fun st => wpAny_pure ?_
    split
    · rename_i c _ _ _ _ _
      cases (c == Value.type "enumerate")
      · wp_walk using q1
        exact ⟨_, rfl, h⟩
      · wp_walk using q1
        exact ⟨_, rfl, h⟩
    · wp_walk using q1
      exact ⟨_, rfl, h⟩
section
variable {prog : Program} {w : World} {A : Around} {E : Value → Shared → Prop} {s : Shared}
theorem call_enum1 {v : Value} {o : Obj} {H : Heap → Prop} {Q : Value → Shared → Prop} (B : Begins v o H) (h1 : H s.heap)
    (h : ∀ h', IsEnum h' (s.heap.objs.size + 1) s.heap.objs.size 0 .none → h'.get? s.heap.objs.size = some o → h'.objs.size = s.heap.objs.size + 2 →
      (∀ b o, s.heap.get? b = some o → h'.get? b = some o) → Q (.ref (s.heap.objs.size + 1)) { s with heap := h' }) :
    wpAny (model prog w) A (call (.type "enumerate") [v]) Q E s := by
  refine callType_new F.called_enumerate (by decide) (F.typeCall_enumerate_1 _) (F.newCall_enumerate_1 _) (fun obj => F.args_object_init_2 obj _) F.entry_enumerate_new
    (meets_enum1 B) ⟨h1, ?_⟩
  have hz : (s.heap.push o).objs.size = s.heap.objs.size + 1 := Heap.size_push ..
  show _ ∧ _
  rw [hz]
  have he : IsEnum ((s.heap.push o).push { cls := .type "enumerate", data := .fields #[.none, .bool false, .ref s.heap.objs.size, rawInt 0, .none, .none] }) (s.heap.objs.size + 1) s.heap.objs.size 0 .none := by
    have := Heap.get?_push_size (s.heap.push o) (o := { cls := .type "enumerate", data := .fields #[.none, .bool false, .ref s.heap.objs.size, rawInt 0, .none, .none] }) rfl
    rw [hz] at this; exact this
  refine ⟨⟨_, he, rfl⟩, h _ he (Heap.get?_push_of_some _ (Heap.get?_push_size _ B.free)) (by rw [Heap.size_push, hz]) fun b o x => Heap.get?_push_of_some _ (Heap.get?_push_of_some _ x)⟩
end
end Lm
namespace Lm
open PySem L2 PyProof.Rows PySem.Spec
open PySem.F in
theorem pyNext_enumT_end {prog : Program} {w : World} {A : Around} {E : Value → Shared → Prop} {s : Shared} {e it l : Addr} {i : Nat} {items : Array Value} {old : Value} {Q : Option Value → Shared → Prop} (hh : A.handled = none)
    (he : IsEnum s.heap e it i old) (hit : s.heap.IsTupleIter it l i) (hl : s.heap.IsTuple l items) (hx : items[i]? = none)
    (hQ : ∀ h', Heap.ExtBut it s.heap h' → Q none { s with heap := h' }) : wpAny (model prog w) A (pyNext (.ref e)) Q E s := by
  have hT : s.TypeIs (.ref e) "enumerate" := ⟨_, he, rfl⟩
  unfold pyNext
  refine wpAny_bind (wpAny_attempt (wpAny_callSpecial?_slot (name := Str.ofString "__next__") hT F.slot_enumerate_next
    (wpAny_call_entry F.slot_enumerate_next hT F.entry_enumerate_next ?_ (F.args_enumerate_next_1 _))))
  show wpAny _ _ (field (.ref e) 2 >>= _) _ _ _
  refine wpAny_bind (wpAny_field he rfl (x := .ref it) rfl ?_)
  refine wpAny_bind (wpAny_nextOf_tuple_end (A := A.in1) hh hit hl hx fun h' x he' hx' => ?_)
  obtain ⟨o, ho, hc⟩ := hx'
  refine wpAny_bind (wpAny_isInstance (T := "StopIteration") (b := true) ⟨o, ho, hc⟩ isSubtype_stop ?_)
  exact wpAny_pure (hQ _ he')
/-- the tuple at a as it stands, each item in a new pair -/
def IteT (K : PySem.W.Frag) (a : Addr) : It :=
  ⟨fun i H => ∃ (xs : List V) (x : V), SqT K H a xs ∧ xs[i]? = some x, fun i H v H' => ∃ T x, v = .ref T ∧ H T = none ∧ H' = upd H T (.tup [.int (i : Nat), x]) ∧ ∀ xs, SqT K H a xs → xs[i]? = some x, fun i H => ∃ xs : List V, SqT K H a xs ∧ xs.length ≤ i⟩
theorem turn_enumT {P : Program} {w : World} {K : PySem.W.Frag} {elts : List Expr} {kk : Nat} {tpos : Pos} (a e it : Addr) (hai : a ≠ it) (hea : e ≠ a) :
    Turn P w K (.Tuple elts kk tpos) (IteT K a) [e, it] e (fun i h => (∃ old, IsEnum h e it ((i : Nat) : Int) old) ∧ h.IsTupleIter it a i ∧ e ≠ it) where
  mem := by simp
  obj := fun i h st b hb => by
    obtain ⟨⟨old, he⟩, ⟨o, ho, hc, hd⟩, _⟩ := st
    have e' : b = e ∨ b = it := by simpa using hb
    rcases e' with z | z
    · rw [z]; exact ⟨_, he, fun v q => nomatch q⟩
    · rw [z]; exact ⟨o, ho, fun v q => by rw [hd] at q; cases q⟩
  keep := fun i h h' st k => let ⟨⟨old, he⟩, hi, hne⟩ := st; ⟨⟨old, k e (by simp) _ he⟩, hi.at fun o q => k it (by simp) o q, hne⟩
  item := by
    intro X hP hw hK hc i pins s σ H E I hf st hg
    subst hP hw hK
    obtain ⟨⟨old, he⟩, hit, hne⟩ := st
    obtain ⟨xs, x, hq, hx⟩ := hg
    obtain ⟨its, rv, p, hz⟩ := I.tuple hq
    obtain ⟨u, hu, ru⟩ := rv.get hx
    have hel : e < s.heap.objs.size := Heap.lt_size he
    have hil : it < s.heap.objs.size := by obtain ⟨_, q, _⟩ := hit; exact Heap.lt_size q
    have hi : i < its.toArray.size := by
      have := (List.getElem?_eq_some_iff.mp hu).1
      simpa using this
    refine wpAny_pyNext_enum_itemD (Draws.tuple (A := X.A.in1) (I.ok.hd hc) it a hai its.toArray) he ⟨hit, p⟩ hi hne (by simp [hne, hea]) fun x' h' tk hx' ho hst' hT hsz hk => ?_
    have hit' := hst'.1
    have ex' : x' = u := by
      have : its[i]? = some x' := by simpa using hx'
      rw [hu] at this; exact (Option.some.inj this).symm
    subst ex'
    refine ⟨_, rfl, wpAny_letOwnedTupleGo_enum (s := { s with heap := h', toks := tk + 1 }) ho fun h'' he' sb => ?_⟩
    have hT2 : h''.get? s.heap.objs.size = some { cls := .type "tuple", data := .seq #[.int i tk, x'] } := (sb.2 _ (Nat.ne_of_gt hel)).trans hT
    have new : ObjOk X.prog X.w (upd H s.heap.objs.size (.tup [.int (i : Nat), x])) h'' s.heap.objs.size (.tup [.int (i : Nat), x]) :=
      ⟨by show 2 ≤ sizeLine; decide, [.int i tk, x'], .cons ⟨_, rfl⟩ (.cons ru .nil), ⟨_, hT2, rfl, _, rfl⟩⟩
    have I1 : Inv X pins σ (upd H s.heap.objs.size (.tup [.int (i : Nat), x])) { s with heap := h'', toks := tk + 1 } :=
      I.turnedNew (ch := [e, it]) (fun b ob hb q => (sb.2 b (fun z => hb (by simp [z]))).trans (hk b ob (fun z => hb (by simp [z])) (fun z => hb (by simp [z])) q)) hf (Nat.le_refl _) new
    refine ⟨.ref s.heap.objs.size, _, I1, rfl, ⟨_, x, rfl, I.hok.fresh (Nat.le_refl _), rfl, fun ys hy => by rw [I.tuple_inj hy hq]; exact hx⟩, ⟨⟨x', ?_⟩, hit'.at fun o q => (sb.2 it (Ne.symm hne)).trans q, hne⟩, fun b hb => ?_⟩
    · have e1 : ((i + 1 : Nat) : Int) = (i : Int) + 1 := by omega
      rw [e1]; exact he'
    · have hb' : b < s.heap.objs.size := by
        have e' : b = e ∨ b = it := by simpa using hb
        rcases e' with z | z
        · rw [z]; exact hel
        · rw [z]; exact hil
      rw [upd_ne (Nat.ne_of_lt hb')]
      exact (hf b hb).1
  done := by
    intro X hP hw hK hc i pins s σ H E I hf st hg
    subst hP hw hK
    obtain ⟨⟨old, he⟩, hit, hne⟩ := st
    obtain ⟨xs, hq, hx⟩ := hg
    obtain ⟨its, rv, p, hz⟩ := I.tuple hq
    obtain ⟨f0, f1, f2, f3, f4, f5⟩ := hf it (by simp)
    have hl := rv.length
    exact pyNext_enumT_end (I.ok.hd hc) he hit p (by simp; omega) fun h' eb => ⟨rfl, I.turned (t' := s.toks) (fun b o hb q => eb b o hb q) f0 f1 f3 f4 f5⟩
  self := fun A i s Q E st h => let ⟨⟨_, he⟩, _⟩ := st; wpAny_pyIter_enum he h
def iEnumA (K : PySem.W.Frag) (ta : TA) : TI := fun σ H R => ta σ H fun vs H1 => ∃ a xs, vs = [.ref a] ∧ ((SqL K H1 a xs ∧ R (Ite K a) H1) ∨ (SqT K H1 a xs ∧ R (IteT K a) H1))
theorem pi_enumA {X : Cx} {e : Expr} {ta : TA} {p pos tpos : Pos} {elts : List Expr} {kk : Nat} (hg : Gl X "enumerate") (hm : X.mg "enumerate" = none) (ha : PA X [e] ta) (hs : starEach [e] X.env = [(false, eval e X.env)] := by rfl) :
    PI X (.Tuple elts kk tpos) (.Call (.Name "enumerate" p) [e] [] pos) (iEnumA X.K ta) := by
  refine ⟨fun pins s σ H R I h => ?_⟩
  refine Call_ (ld_blt I hg hm boot_enumerate (PyProof.Rows.callWith_type1 (thn (ha.run pos pins s σ H _ I h) fun us s1 ⟨vs, H1, I1, r1, q1⟩ => ?_) hs rfl))
  obtain ⟨a, xs, ex, q1⟩ := q1
  subst ex
  cases r1 with
  | cons r rr =>
    cases rr
    cases r
    have fresh2 : ∀ b, b ∈ [s1.heap.objs.size + 1, s1.heap.objs.size] → FpOk X pins H1 b := fun b hb => by
      have e' : b = s1.heap.objs.size + 1 ∨ b = s1.heap.objs.size := by simpa using hb
      have hle : s1.heap.objs.size ≤ b := by
        rcases e' with z | z
        · rw [z]; exact Nat.le_add_right _ _
        · rw [z]; exact Nat.le_refl _
      exact I1.fpOk hle (I1.hok.fresh hle)
    rcases q1 with ⟨hq, q⟩ | ⟨hq, q⟩
    · obtain ⟨its, rv, p', hz⟩ := I1.list hq
      refine call_enumerate_list p'.isList fun h' he hit hsz hk => wpAny_pyIter_enum he ?_
      have I2 : Inv X pins σ H1 { s1 with heap := h' } := I1.kept (t' := s1.toks) hk
      exact ⟨s1.heap.objs.size + 1, [s1.heap.objs.size + 1, s1.heap.objs.size], _, _, H1, rfl, I2, turn_enum a (s1.heap.objs.size + 1) s1.heap.objs.size, ⟨⟨.none, he⟩, hit, Nat.succ_ne_self _⟩, fresh2, q⟩
    · obtain ⟨its, rv, p', hz⟩ := I1.tuple hq
      obtain ⟨o1, ho1, _⟩ := id p'
      have hlt := Heap.lt_size ho1
      refine call_enum1 (begins_tuple a its.toArray) (show s1.heap.IsTuple a its.toArray from p') fun h' he hit hsz hk => wpAny_pyIter_enum he ?_
      have I2 : Inv X pins σ H1 { s1 with heap := h' } := I1.kept (t' := s1.toks) hk
      exact ⟨s1.heap.objs.size + 1, [s1.heap.objs.size + 1, s1.heap.objs.size], _, _, H1, rfl, I2, turn_enumT a (s1.heap.objs.size + 1) s1.heap.objs.size (Nat.ne_of_lt hlt) (Nat.ne_of_gt (Nat.lt_succ_of_lt hlt)), ⟨⟨.none, he⟩, ⟨_, hit, rfl, rfl⟩, Nat.succ_ne_self _⟩, fresh2, q⟩
theorem walk_enumT {K : PySem.W.Frag} {a : Addr} {xs : List V} : Walk (IteT K a) xs.length (fun H => SqT K H a xs) (YPair (fun i => some (.int (i : Nat))) (fun i => xs[i]?)) :=
  ⟨fun i _ hi q => ⟨xs, xs[i], q, by simp [hi]⟩, fun _ q => ⟨xs, q, Nat.le_refl _⟩, fun i H v H' _ q ⟨T, x, e1, e2, e3, e4⟩ => ⟨T, _, x, e1, e2, e3, rfl, e4 xs q⟩⟩
end Lm

namespace Lm
open PySem L2
/-! ### defs, methods, classes as they stand behind the top, with their promises -/
structure DefOk (P : Program) (w : World) (K : PySem.W.Frag) (mg : Str → Option Value) (base : Heap) (k : Nat) (x : Str) (f : Addr) (fd : FuncData) (ps : List Str) (sp : Sp) : Prop where
  ok : FnOk P w K mg base CX0 k f fd ps sp
  kp : PySem.W.keepIn K (.ref f) = true
  bd : Binds K fd ps []
  mg : mg x = some (.ref f)
structure MetOk (P : Program) (w : World) (K : PySem.W.Frag) (mg : Str → Option Value) (base : Heap) (k : Nat) (C : Addr) (m : Str) (f : Addr) (fd : FuncData) (ps : List Str) (sp : Sp) : Prop where
  ok : FnOk P w K mg base CX0 k f fd ps sp
  bd : Binds K fd ps []
  mt : Meth K C m f
  cl : Cls K C
structure ClsOk (P : Program) (w : World) (K : PySem.W.Frag) (mg : Str → Option Value) (base : Heap) (k : Nat) (x : Str) (C f : Addr) (fd : FuncData) (ps : List Str) (sp : Sp) : Prop where
  ok : FnOk P w K mg base CX0 k f fd ps sp
  bd : Binds K fd ps []
  mkr : Mk K C f
  cl : Cls K C
  mg : mg x = some (.ref C)
section
variable {X : Cx} {k : Nat} {f C : Addr} {fd : FuncData} {ps : List Str} {sp : Sp} {x m : Str} {p pos apos : Pos} {e o : Expr} {es : List Expr} {ta : TE} {t : TA}
theorem pe_d (D : DefOk X.prog X.w X.K X.mg X.base k x f fd ps sp) (hr : Room k X.A) (ha : PA X (e :: es) t) (hg : Gl X x := by rfl) (hdb : (x == ("__debug__" : Str)) = false := by decide)
    (he : starEach (e :: es) X.env = (false, eval e X.env) :: starEach es X.env := by rfl) (hpl : (backTo pos (starEach es X.env)).any (·.1) = false := by rfl) :
    PE X (.Call (.Name x p) (e :: es) [] pos) (tCall sp [] E0 t) := pe_call D.ok hr hg D.mg D.kp D.bd .nil pass0 ha hdb he hpl
theorem pe_d0 (D : DefOk X.prog X.w X.K X.mg X.base k x f fd ps sp) (hr : Room k X.A) (hg : Gl X x := by rfl) (hdb : (x == ("__debug__" : Str)) = false := by decide) :
    PE X (.Call (.Name x p) [] [] pos) (tCall sp [] E0 tNil) := pe_call0 D.ok hr hg D.mg D.kp D.bd .nil pass0 hdb
theorem pe_mk (D : ClsOk X.prog X.w X.K X.mg X.base k x C f fd ps sp) (hr : Room (k + 1) X.A) (ha : PA X (e :: es) t) (hg : Gl X x := by rfl) (hdb : (x == ("__debug__" : Str)) = false := by decide)
    (he : starEach (e :: es) X.env = (false, eval e X.env) :: starEach es X.env := by rfl) (hpl : (backTo pos (starEach es X.env)).any (·.1) = false := by rfl) :
    PE X (.Call (.Name x p) (e :: es) [] pos) (tMake C sp [] E0 t) := pe_make D.mkr D.ok hr hg D.mg D.bd .nil pass0 ha hdb he hpl
theorem pe_m {pl : Sem Bool} (D : MetOk X.prog X.w X.K X.mg X.base k C m f fd ps sp) (hr : Room k X.A) (he : PE X o ta) (ha : PA X (e :: es) t)
    (hst : starEach (e :: es) X.env = (false, eval e X.env) :: starEach es X.env := by rfl) (hpl : (backTo pos (starEach es X.env)).any (·.1) = false := by rfl)
    (ht : eval (.Call (.Attribute o m apos) (e :: es) [] pos) X.env = (do
      let ov ← eval o X.env
      standAt apos.atName
      let (f, first) ← holding [ov] (getMethod ov m pl)
      callWith pos f first (backTo pos (starEach (e :: es) X.env)) (backToKw pos (keywordEach [] X.env))) := by rfl) :
    PE X (.Call (.Attribute o m apos) (e :: es) [] pos) (tMeth C m sp [] E0 ta t) := pe_meth (pl := pl) he D.cl D.mt D.ok hr D.bd .nil pass0 ha hst hpl ht
theorem pe_m0 {pl : Sem Bool} (D : MetOk X.prog X.w X.K X.mg X.base k C m f fd ps sp) (hr : Room k X.A) (he : PE X o ta)
    (ht : eval (.Call (.Attribute o m apos) [] [] pos) X.env = (do
      let ov ← eval o X.env
      standAt apos.atName
      let (f, first) ← holding [ov] (getMethod ov m pl)
      callWith pos f first (backTo pos (starEach [] X.env)) (backToKw pos (keywordEach [] X.env))) := by rfl) :
    PE X (.Call (.Attribute o m apos) [] [] pos) (tMeth C m sp [] E0 ta tNil) := pe_meth0 (pl := pl) he D.cl D.mt D.ok hr D.bd .nil pass0 ht
theorem MetOk.len (D : MetOk X.prog X.w X.K X.mg X.base k C "__len__" f fd ps sp) (hr : Room (k + 1) X.A) : CallR X (.builtin "len") (rLenOwn C sp E0) := call_lenOwn D.ok D.mt.at_ D.mt.fn D.bd hr pass0
theorem MetOk.isin (D : MetOk X.prog X.w X.K X.mg X.base k C "__contains__" f fd ps sp) (hr : Room k X.A) : OpR X (compareOp .In) (rInOwn C sp E0 false) := op_inOwn D.ok D.mt.at_ D.mt.fn D.bd hr pass0
theorem MetOk.notin (D : MetOk X.prog X.w X.K X.mg X.base k C "__contains__" f fd ps sp) (hr : Room k X.A) : OpR X (compareOp .NotIn) (rInOwn C sp E0 true) := op_notInOwn D.ok D.mt.at_ D.mt.fn D.bd hr pass0
theorem MetOk.bin {op : Operator} (D : MetOk X.prog X.w X.K X.mg X.base k C (PySem.dunder op.info.2) f fd ps sp) (hc : PySem.W.selfFirst X.K C = true) (hr : Room k X.A) : OpR X (binaryOp op) (rBinOwn C sp E0) := op_binOwn D.ok hc D.mt.at_ D.mt.fn D.bd hr pass0
theorem MetOk.le (D : MetOk X.prog X.w X.K X.mg X.base k C "__le__" f fd ps sp) (hr : Room k X.A) : OpR X (compareOp .LtE) (rBinOwn C sp E0) := op_cmpOwn (fun _ _ => rfl) D.ok D.mt.at_ D.mt.fn D.bd hr pass0
theorem MetOk.lt (D : MetOk X.prog X.w X.K X.mg X.base k C "__lt__" f fd ps sp) (hr : Room k X.A) : OpR X (compareOp .Lt) (rBinOwn C sp E0) := op_cmpOwn (fun _ _ => rfl) D.ok D.mt.at_ D.mt.fn D.bd hr pass0
theorem MetOk.eq (D : MetOk X.prog X.w X.K X.mg X.base k C "__eq__" f fd ps sp) (hr : Room k X.A) : OpR X (compareOp .Eq) (rBinOwn C sp E0) := op_cmpOwn (fun _ _ => rfl) D.ok D.mt.at_ D.mt.fn D.bd hr pass0
/-- x != y of two instances of a class with an own == alone -/
def rNeOwn (C : Addr) (sp : Sp) (E : XK) : R2 := fun x y H Q => ∃ a dx fs b dy gs, x = .ref a ∧ y = .ref b ∧ H a = some (.ins C dx fs) ∧ H b = some (.ins C dy gs) ∧ sp [x, y] H (fun z H' => ∃ k : Bool, z = .bl k ∧ Q (.bl (!k)) H') E
theorem MetOk.ne (D : MetOk X.prog X.w X.K X.mg X.base k C "__eq__" f fd ps sp) (hn : PySem.W.findIn X.K (.ref C) "__ne__" = some (some (.builtin "object.__ne__"))) (ho : PySem.W.subIn X.K (.ref C) (.type "object") = some true) (hr : Room (k + 1) X.A) :
    OpR X (compareOp .NotEq) (rNeOwn C sp E0) := by
  intro pins s σ H x y v u Q I rx ry h
  obtain ⟨a, dx, fs, b, dy, gs, rfl, rfl, ha, hb', q⟩ := h
  cases (show v = Value.ref a from rx)
  cases (show u = Value.ref b from ry)
  obtain ⟨mA, J, _⟩ := ins_get I.hok ha
  obtain ⟨mB, J', _⟩ := ins_get I.hok hb'
  obtain ⟨od, J, _⟩ := J.look
  obtain ⟨od', J', _⟩ := J'.look
  obtain ⟨m, hF⟩ := I.fr
  show wpAny _ _ (richCompare .NotEq _ _) _ _ _
  refine ne_own (tb := .ref C) (by have := hr.un; omega) hF I.ok.mod.kin J J'.type (by simp [PySem.W.notFirst]) hn ho D.mt.at_ D.mt.fn
    (wpAny_mono (run_in (us := [.ref a, .ref b]) (vs := [.ref a, .ref b]) D.ok hr.in1 I.env0.in1 D.bd pass0 I (.cons rfl (.cons rfl .nil)) q) (fun w s' z => ?_) fun _ _ x => x)
  obtain ⟨z', H', I', rz, b, ez, qz⟩ := z
  subst ez
  cases (show w = Value.bool b from rz)
  exact ⟨b, rfl, .bl _, H', I', rfl, qz⟩
end
/-! ### heaps -/
/-- all that was tracked is as it was, but perhaps what stands at st -/
def Kp (st : Addr) (H H' : Hp) : Prop := ∀ b o, b ≠ st → H b = some o → H' b = some o
theorem Kp.refl (st : Addr) (H : Hp) : Kp st H H := fun _ _ _ h => h
theorem Kp.trans {st : Addr} {H H1 H2 : Hp} (a : Kp st H H1) (b : Kp st H1 H2) : Kp st H H2 := fun c o n h => b c o n (a c o n h)
theorem Kp.of {st : Addr} {H H' : Hp} (s : Same H H') : Kp st H H' := fun b o _ h => s b o h
theorem Kp.upd (st : Addr) (H : Hp) (o : HO) : Kp st H (upd H st o) := fun b u n h => by rw [upd_ne n]; exact h
theorem Kp.free {st : Addr} {H H' : Hp} (e : Kp st H H') {l : Addr} (hl : l ≠ st) (h : H' l = none) : H l = none := by
  cases q : H l with
  | none => rfl
  | some o => rw [e l o hl q] at h; cases h
theorem Same.upd' {H : Hp} {p : Addr} {o : HO} (h : H p = none) : Same H (upd H p o) := fun a u e => by rw [upd_ne (ne_of_none e h)]; exact e
/-- an object that H does not know may change -/
theorem Same.mut {H H' : Hp} {p : Addr} {o : HO} (e : Same H H') (h : H p = none) : Same H (upd H' p o) := fun a u ha => by rw [upd_ne (ne_of_none ha h)]; exact e a u ha
theorem Kp.mut {st : Addr} {H H' : Hp} {p : Addr} {o : HO} (e : Kp st H H') (h : H p = none) : Kp st H (L2.upd H' p o) := fun a u hn ha => by rw [upd_ne (ne_of_none ha h)]; exact e a u hn ha
theorem Kp.seqL {st : Addr} {K : PySem.W.Frag} {H H' : Hp} {a : Addr} {xs : List V} (e : Kp st H H') (hn : a ≠ st) (h : SqL K H a xs) : SqL K H' a xs := by
  rcases h with (h | ⟨o, h⟩) | h
  · exact .inl (.inl (e _ _ hn h))
  · exact .inl (.inr ⟨o, e _ _ hn h⟩)
  · exact .inr h
theorem Kp.seqT {st : Addr} {K : PySem.W.Frag} {H H' : Hp} {a : Addr} {xs : List V} (e : Kp st H H') (hn : a ≠ st) (h : SqT K H a xs) : SqT K H' a xs := by
  rcases h with (h | ⟨o, h⟩) | h
  · exact .inl (.inl (e _ _ hn h))
  · exact .inl (.inr ⟨o, e _ _ hn h⟩)
  · exact .inr h
theorem Same.seqT {K : PySem.W.Frag} {H H' : Hp} {a : Addr} {xs : List V} (e : Same H H') (h : SqT K H a xs) : SqT K H' a xs := by
  rcases h with (h | ⟨o, h⟩) | h
  · exact .inl (.inl (e _ _ h))
  · exact .inl (.inr ⟨o, e _ _ h⟩)
  · exact .inr h
/-- the law's state: the cells, how many were taken, what is left, whether it is far -/
structure StAt (H : Hp) (st c : Addr) : Prop where
  ob : ∃ (n l : Int) (b : Bool), H st = some (.lst [.ref c, .int n, .int l, .bl b])
  ce : ∃ ns : List Int, H c = some (.lst (ns.map V.int)) ∧ ns.length ≤ 63
  ne : c ≠ st
theorem StAt.same {H H' : Hp} {st c : Addr} (S : StAt H st c) (e : Same H H') : StAt H' st c := by
  obtain ⟨⟨n, l, b, h⟩, ⟨ns, h2, h3⟩, ne⟩ := S
  exact ⟨⟨n, l, b, e _ _ h⟩, ⟨ns, e _ _ h2, h3⟩, ne⟩
/-- another object changes -/
theorem StAt.mut {H : Hp} {st c p : Addr} {o : HO} (S : StAt H st c) (h1 : p ≠ st) (h2 : p ≠ c) : StAt (upd H p o) st c := by
  obtain ⟨⟨n, l, b, h⟩, ⟨ns, h4, h3⟩, ne⟩ := S
  exact ⟨⟨n, l, b, by rw [upd_ne (Ne.symm h1)]; exact h⟩, ⟨ns, by rw [upd_ne (Ne.symm h2)]; exact h4, h3⟩, ne⟩
theorem StAt.of_new {H : Hp} {st c p : Addr} (S : StAt H st c) (h : H p = none) : p ≠ st ∧ p ≠ c := by
  obtain ⟨⟨n, l, b, h1⟩, ⟨ns, h4, h3⟩, ne⟩ := S
  exact ⟨(ne_of_none h1 h).symm, (ne_of_none h4 h).symm⟩
end Lm

namespace Lm
open PySem PySem.W PySem.Calls PyProof.Rows
section
variable {prog : Program} {w : World} {A : Around} {E : Value → Shared → Prop} {s : Shared} {K : Frag} {x C L f f' dx : Addr} {h₀ : Heap} {m : Str → Option Value} {od : Option Obj}
theorem add_declines {C : Addr} {dx : Addr} (n : Int) (t : Tok) (x : Addr) : GivesAt (fun s => s.heap.get? x = some (instObj C dx)) (Builtin.«int.__add__» ⟨[.int n t, .ref x], []⟩) (.val .notImplemented) := by
  intro prog w A R s hx h
  obtain ⟨hp, g, d, tk, os⟩ := s
  have hx : hp.get? x = some (instObj C dx) := hx
  unfold Builtin.«int.__add__» PySem.Builtin.Int.intBinary
  repeat (first
    | (refine wpAny_bind (m := asInt? (.ref x)) ?_; unfold asInt?; refine wpAny_bind (wpAny_load (s := ⟨hp, g, d, tk, os⟩) hx ?_); dsimp only [instObj])
    | wp_step)
  exact h
theorem ksp_addR {n : Int} {t : Tok} {Q : Value → Shared → Prop} (Fh : Fr h₀ L s.heap m) (X₀ : K.In h₀) (I : InstAt s.heap x (instObj C dx) C od) (hc : selfFirst K C = true)
    (hs : findIn K (.ref C) "__add__" = some (some (.ref f'))) (hr : findIn K (.ref C) "__radd__" = some (some (.ref f))) (hf : isFn K (.ref f) = true) (hsub : subIn K (.ref C) (.type "int") = some false)
    (h : wpAny (model prog w) A (call (.ref f) [.ref x, .int n t]) (PySem.W.CmpBack Q) E s) : wpAny (model prog w) A (binaryOp .Add (.int n t) (.ref x)) Q E s := by
  have X := X₀.keeps Fh.keep
  obtain ⟨cd, rest, hcd, hm⟩ := ksp_first hc
  have I' := I
  obtain ⟨hh, g, d, tt, os⟩ := s
  have L1 : Looks (model prog w) hh (typeOf (.ref x)) (.ref C) := I.type
  have L3 : Looks (model prog w) hh (fillsNumberSlot (.ref C) "add") true := fills_K X hcd hm hs
  have L5 : Looks (model prog w) hh (isSubtype (.ref C) (.type "int")) false := looks_subIn X hsub
  have L2 : Looks (model prog w) hh (typeOf (.int n t)) (.type "int") := Looks.of_pure rfl
  have L4 : Looks (model prog w) hh (fillsNumberSlot (.type "int") "add") true := Looks.of_pure F.fills_int_add
  have hne : (Value.type "int" == Value.ref C) = false := Bool.eq_false_iff.mpr fun q => by cases beq_iff_eq.mp q
  have two : ∀ {Q' : Option Value → Shared → Prop}, (∀ v s', Q v s' → Q' (some v) s') → wpAny (model prog w) A (tryMethod (.ref x) (dunderR "add") (.int n t)) Q' E ⟨hh, g, d, tt, os⟩ := fun hq => by
    refine wpAny_mono (ksp_try (Q := Q) X I' hr hf h) (fun r s' z => ?_) fun _ _ e => e
    obtain ⟨v, rfl, q⟩ := z
    exact hq _ _ q
  have one : ∀ {Q' : Option Value → Shared → Prop}, Q' none ⟨hh, g, d, tt, os⟩ → wpAny (model prog w) A (tryMethod (.int n t) (PySem.dunder "add") (.ref x)) Q' E ⟨hh, g, d, tt, os⟩ := fun hq =>
    wpAny_tryMethod_declines (typeIs_int _ n t) F.slot_int_add (call_givesAt F.slot_int_add (typeIs_int _ n t) F.entry_int_add (F.args_int_add_2 _ _) (add_declines (C := C) (dx := dx) n t x) I'.at_ ⟨rfl, hq⟩)
  simp only [binaryOp]
  refine wpAny_holding (wpAny_bind ?_)
  unfold binaryOp1
  refine wpAny_bind (L2.at (wpAny_bind (L1.at (wpAny_bind (L4.at ?_)))))
  simp only [hne, Bool.false_eq_true, if_false]
  refine wpAny_bind (L3.at ?_)
  simp only [Bool.and_self, if_true]
  refine wpAny_bind (L5.at ?_)
  simp only [Bool.false_eq_true, if_false, Bool.not_false, Bool.and_self, if_true]
  refine wpAny_bind (wpAny_pure ?_)
  simp only [Bool.false_eq_true, if_false]
  refine wpAny_bind (one ?_)
  dsimp only
  refine wpAny_bind (two fun v s' q => ?_)
  dsimp only
  exact wpAny_bind (wpAny_rule (wpAny_pure (wpAny_pure q)))
end
end Lm

namespace Lm
open PySem L2
section
variable {X : Cx} {CX : CXT} {k : Nat} {f f' C : Addr} {fd : FuncData} {ps : List Str} {sp : Sp} {E : XK}
/-- x op n, x an instance of the class at C, n an integer -/
def rBinInt (C : Addr) (sp : Sp) (E : XK) : R2 := fun x y H Q => ∃ a dx fs n, x = .ref a ∧ y = .int n ∧ H a = some (.ins C dx fs) ∧ sp [x, y] H Q E
/-- what the text says of the class's own op and of the integers' -/
structure BinInt (K : PySem.W.Frag) (C : Addr) (nm : String) : Prop where
  self : PySem.W.selfFirst K C = true
  r : ∃ rc, PySem.W.findIn K (.ref C) (PySem.dunderR nm) = some rc ∧ (rc = none ∨ ∃ g : Addr, rc = some (.ref g))
  i1 : ∃ fo, PySem.W.findIn K (.type "int") (PySem.dunder nm) = some fo
  i2 : ∃ ro, PySem.W.findIn K (.type "int") (PySem.dunderR nm) = some ro
  sub : PySem.W.subIn K (.type "int") (.ref C) = some false
theorem op_binInt {op : Operator} (F : FnOk X.prog X.w X.K X.mg X.base CX k f fd ps sp) (B : BinInt X.K C op.info.2) (hs : PySem.W.findIn X.K (.ref C) (PySem.dunder op.info.2) = some (some (.ref f))) (hf : PySem.W.isFn X.K (.ref f) = true) (hb : Binds X.K fd ps []) (hr : Room k X.A) (hx : Passes CX X E) :
    OpR X (binaryOp op) (rBinInt C sp E) := by
  intro pins s σ H x y v u Q I rx ry h
  obtain ⟨a, dx, fs, n, rfl, rfl, ha, q⟩ := h
  cases (show v = Value.ref a from rx)
  obtain ⟨t, e⟩ := (show ∃ t, u = Value.int n t from ry)
  subst e
  obtain ⟨mA, J, _⟩ := ins_get I.hok ha
  obtain ⟨od, J, _⟩ := J.look
  obtain ⟨m, hF⟩ := I.fr
  obtain ⟨rc, b1, b2⟩ := B.r
  obtain ⟨fo, b3⟩ := B.i1
  obtain ⟨ro, b4⟩ := B.i2
  refine PySem.W.ksp_binT (T := "int") hF I.ok.mod.kin J rfl B.self hs hf b1 b2 b3 b4 B.sub (wpAny_mono (run_in (us := [.ref a, .int n t]) (vs := [.ref a, .int n]) F hr I.env0 hb hx I (.cons rfl (.cons ⟨t, rfl⟩ .nil)) q) (fun w s' z => ?_) fun _ _ x => x)
  obtain ⟨z', H', I', rz, qz⟩ := z
  exact cmpBack rz ⟨z', H', I', rz, qz⟩
/-- n + x -/
def rAddR (C : Addr) (sp : Sp) (E : XK) : R2 := fun x y H Q => ∃ a dx fs n, x = .int n ∧ y = .ref a ∧ H a = some (.ins C dx fs) ∧ sp [y, x] H Q E
theorem op_addR (F : FnOk X.prog X.w X.K X.mg X.base CX k f fd ps sp) (hc : PySem.W.selfFirst X.K C = true) (hs' : PySem.W.findIn X.K (.ref C) "__add__" = some (some (.ref f'))) (hsub : PySem.W.subIn X.K (.ref C) (.type "int") = some false)
    (hs : PySem.W.findIn X.K (.ref C) "__radd__" = some (some (.ref f))) (hf : PySem.W.isFn X.K (.ref f) = true) (hb : Binds X.K fd ps []) (hr : Room k X.A) (hx : Passes CX X E) :
    OpR X (binaryOp .Add) (rAddR C sp E) := by
  intro pins s σ H x y v u Q I rx ry h
  obtain ⟨a, dx, fs, n, rfl, rfl, ha, q⟩ := h
  cases (show u = Value.ref a from ry)
  obtain ⟨t, e⟩ := (show ∃ t, v = Value.int n t from rx)
  subst e
  obtain ⟨mA, J, _⟩ := ins_get I.hok ha
  obtain ⟨od, J, _⟩ := J.look
  obtain ⟨m, hF⟩ := I.fr
  refine ksp_addR hF I.ok.mod.kin J hc hs' hs hf hsub (wpAny_mono (run_in (us := [.ref a, .int n t]) (vs := [.ref a, .int n]) F hr I.env0 hb hx I (.cons rfl (.cons ⟨t, rfl⟩ .nil)) q) (fun w s' z => ?_) fun _ _ x => x)
  obtain ⟨z', H', I', rz, qz⟩ := z
  exact cmpBack rz ⟨z', H', I', rz, qz⟩
theorem MetOk.bini {op : Operator} (D : MetOk X.prog X.w X.K X.mg X.base k C (PySem.dunder op.info.2) f fd ps sp) (B : BinInt X.K C op.info.2) (hr : Room k X.A) : OpR X (binaryOp op) (rBinInt C sp E0) := op_binInt D.ok B D.mt.at_ D.mt.fn D.bd hr pass0
theorem MetOk.addr (D : MetOk X.prog X.w X.K X.mg X.base k C "__radd__" f fd ps sp) (hc : PySem.W.selfFirst X.K C = true) (hs' : PySem.W.findIn X.K (.ref C) "__add__" = some (some (.ref f'))) (hsub : PySem.W.subIn X.K (.ref C) (.type "int") = some false) (hr : Room k X.A) :
    OpR X (binaryOp .Add) (rAddR C sp E0) := op_addR D.ok hc hs' hsub D.mt.at_ D.mt.fn D.bd hr pass0
theorem MetOk.gt (D : MetOk X.prog X.w X.K X.mg X.base k C "__gt__" f fd ps sp) (hr : Room k X.A) : OpR X (compareOp .Gt) (rBinOwn C sp E0) := op_cmpOwn (fun _ _ => rfl) D.ok D.mt.at_ D.mt.fn D.bd hr pass0
theorem MetOk.ge (D : MetOk X.prog X.w X.K X.mg X.base k C "__ge__" f fd ps sp) (hr : Room k X.A) : OpR X (compareOp .GtE) (rBinOwn C sp E0) := op_cmpOwn (fun _ _ => rfl) D.ok D.mt.at_ D.mt.fn D.bd hr pass0
/-- a property of a class, with its getter's promise -/
structure PrpOk (P : Program) (w : World) (K : PySem.W.Frag) (mg : Str → Option Value) (base : Heap) (k : Nat) (C p : Addr) (m : Str) (f : Addr) (fd : FuncData) (ps : List Str) (sp : Sp) : Prop where
  ok : FnOk P w K mg base CX0 k f fd ps sp
  bd : Binds K fd ps []
  pr : PropOf K C m p f
  cl : Cls K C
theorem pe_p {p : Addr} {m : Str} {e : Expr} {pos : Pos} {ta : TE} (D : PrpOk X.prog X.w X.K X.mg X.base k C p m f fd ps sp) (hr : Room (k + 1) X.A) (he : PE X e ta) (hab : attributeBase e m X.env (eval e X.env) = eval e X.env := by rfl) :
    PE X (.Attribute e m pos) (tProp C sp [] E0 ta) := pe_prop he D.cl D.pr D.ok hr D.bd .nil pass0 hab
end
end Lm

namespace Lm
open PySem L2 PyProof.Rows
section
variable {prog : Program} {w : World} {A : Around} {E : Value → Shared → Prop} {s : Shared}
theorem isList_push {h : Heap} {l : Addr} {items : Array Value} {o : Obj} (x : h.IsList l items) : (h.push o).IsList l items := by
  obtain ⟨ol, hol, r⟩ := x
  exact ⟨ol, Heap.get?_push_of_some _ hol, r⟩
theorem isList_ext {h h' : Heap} {it l : Addr} {items : Array Value} (x : h.IsList l items) (e : Heap.ExtBut it h h') (n : l ≠ it) : h'.IsList l items := by
  obtain ⟨ol, hol, r⟩ := x
  exact ⟨ol, e l ol n hol, r⟩
theorem draw_list {it t : Addr} {items : Array Value} (hne : t ≠ it) : ∀ (n i : Nat) (s : Shared) (Q : List Value → Shared → Prop), s.heap.IsListIter it t i → s.heap.IsList t items → i + n ≤ items.size →
    (∀ h', h'.IsListIter it t (i + n) → Heap.SameBut it s.heap h' → Q ((items.toList.drop i).take n) { s with heap := h' }) → wpAny (model prog w) A (draw (.ref it) n) Q E s
  | 0, i, s, Q, hit, _, _, hQ => by
    show wpAny _ _ (pure []) Q E s
    exact wpAny_pure (by simpa using hQ s.heap hit (Heap.SameBut.refl ..))
  | n + 1, i, s, Q, hit, ht, hle, hQ => by
    have hlt : i < items.size := by omega
    show wpAny _ _ (pyNext (.ref it) >>= _) Q E s
    refine wpAny_bind (wpAny_pyNext_list_item hit ht (x := items[i]) (by simp [hlt]) fun h₁ hit₁ hs₁ => ?_)
    refine wpAny_bind (wpAny_holding (draw_list hne n (i + 1) _ _ hit₁ (isList_ext ht hs₁.extBut hne) (by omega) fun h₂ hit₂ hs₂ => wpAny_pure ?_))
    have hd : items.toList.drop i = items[i] :: items.toList.drop (i + 1) := by simp [List.drop_eq_getElem_cons, hlt]
    have := hQ h₂ (by rw [show i + (n + 1) = i + 1 + n by omega]; exact hit₂) (hs₁.trans hs₂)
    rw [hd, List.take_succ_cons] at this
    exact this
theorem unpackItems_list {t : Addr} {items : Array Value} {Q : List Value → Shared → Prop} (hh : A.handled = none) (ht : s.heap.IsList t items)
    (hQ : ∀ h', Heap.ExtBut s.heap.objs.size s.heap h' → Q items.toList { s with heap := h' }) : wpAny (model prog w) A (unpackItems (.ref t) items.size none) Q E s := by
  have hlt : t ≠ s.heap.objs.size := by obtain ⟨o, ho, _⟩ := ht; exact Nat.ne_of_lt (Heap.lt_size ho)
  unfold unpackItems
  refine wpAny_bind ?_
  · unfold notIterableAtAll
    refine wpAny_bind (wpAny_specialOf ht.typeIs PySem.F.slot_list_iter.lookup ?_)
    refine wpAny_pure ?_
    simp only [Bool.false_eq_true, if_false]
    refine wpAny_bind (wpAny_holding (wpAny_pyIter_list ht ?_))
    refine wpAny_bind (wpAny_holding (draw_list hlt items.size 0 _ _ ⟨_, Heap.get?_push_size _ rfl, rfl, rfl⟩ (isList_push ht) (by omega) fun h₁ hit₁ hs₁ => ?_))
    have hall : List.take items.size (List.drop 0 items.toList) = items.toList := by
      rw [List.drop_zero]; exact List.take_of_length_le (by simp)
    rw [hall]
    rw [if_neg (by simp)]
    have ht₁ : h₁.IsList t items := isList_ext (isList_push ht) hs₁.extBut hlt
    refine wpAny_bind (wpAny_holding (wpAny_pyNext_list_end hh hit₁ ht₁ (by simp) fun h₂ he₂ => ?_))
    simp only [Option.isSome_none, Bool.false_eq_true, if_false]
    refine wpAny_pure (hQ h₂ fun b o hb e => he₂ b o hb (hs₁.extBut b o hb (Heap.get?_push_of_some _ e)))
theorem assign_Tuple_list {env : Env} {elts : List Expr} {x1} {pos : Pos} {t : Addr} {items : Array Value} {Q : Unit → Shared → Prop} (hh : A.handled = none) (ht : s.heap.IsList t items)
    (hn : (assignEach elts env).length = items.size) (hstar : (assignEach elts env).findIdx? (·.1) = none)
    (h : ∀ h', Heap.ExtBut s.heap.objs.size s.heap h' → wpAny (model prog w) A (assignInOrder ((assignEach elts env).map (·.2)) items.toList) Q E { s with heap := h' }) :
    wpAny (model prog w) A (assign (.Tuple elts x1 pos) env (.ref t)) Q E s := by
  rw [PyProof.Rows.assign_Tuple]
  refine wpAny_bind (wpAny_standAt ?_)
  unfold unpack
  rw [hn, hstar]
  exact wpAny_bind (wpAny_holding (unpackItems_list hh ht h))
end
/-- (a, b, ..) = a list of that length -/
def gTupL (K : PySem.W.Frag) (n : Nat) (t : TGs) : TG := fun v σ H Q => ∃ a xs, v = .ref a ∧ SqL K H a xs ∧ xs.length = n ∧ t xs σ H Q
theorem pg_tupL {X : Cx} {es : List Expr} {k : Nat} {pos : Pos} {t : TGs} {n : Nat} (hc : X.calm = true) (h : PGs X es t)
    (hn : (assignEach es X.env).length = n := by rfl) (hst : (assignEach es X.env).findIdx? (·.1) = none := by rfl) : PG X (.Tuple es k pos) (gTupL X.K n t) := by
  refine ⟨fun pins s σ H v u Q I r hw => ?_⟩
  obtain ⟨a, xs, e1, hq, hl, hw⟩ := hw
  subst e1
  cases r
  obtain ⟨its, rv, ⟨o, m, e, hcl, _, d⟩, hz⟩ := I.list hq
  refine assign_Tuple_list (I.ok.hd hc) ⟨o, e, hcl, m, d⟩ (by simp [hn, ← hl, rv.length]) hst fun h' hx => ?_
  have I1 : Inv X pins σ H { s with heap := h' } := I.kept (t' := s.toks) fun b o e => hx b o (Nat.ne_of_lt (Heap.lt_size e)) e
  exact h.run pins _ σ H xs _ Q I1 (by simpa using rv) hw
end Lm

namespace Lm
open PySem PySem.W PySem.Calls PyProof.Rows
open AutoSeq1 (wpAny_loadPart')
section
variable {prog : Program} {w : World} {A : Around} {E : Value → Shared → Prop} {s : Shared} {K : Frag} {x C L f dx : Addr} {h₀ : Heap} {m : Str → Option Value} {od : Option Obj}
theorem int_eq_ins (n : Int) (t : Tok) (x : Addr) {C dx : Addr} : GivesAt (fun s => s.heap.get? x = some (instObj C dx)) (Builtin.«int.__eq__» ⟨[.int n t, .ref x], []⟩) (.val .notImplemented) := by
  intro prog w A R s hx h
  obtain ⟨hp, g, d, tk, os⟩ := s
  have hx : hp.get? x = some (instObj C dx) := hx
  wp_walk using wpAny_load hx, wpAny_loadPart' hx
  exact h
theorem str_eq_ins (n : Str) (t : Tok) (x : Addr) {C dx : Addr} : GivesAt (fun s => s.heap.get? x = some (instObj C dx)) (Builtin.«str.__eq__» ⟨[.str n t, .ref x], []⟩) (.val .notImplemented) := by
  intro prog w A R s hx h
  obtain ⟨hp, g, d, tk, os⟩ := s
  have hx : hp.get? x = some (instObj C dx) := hx
  wp_walk using wpAny_load hx, wpAny_loadPart' hx
  exact h
theorem list_eq_ins (l x : Addr) {items : Array Value} {n : Nat} {dd : Option Addr} {sl : Array (Option Value)} : GivesAt (fun s => s.heap.get? l = some { cls := .type "list", dict := dd, data := .seq items n, slots := sl } ∧ ∀ prog w, Looks (model prog w) s.heap (isInstance (.ref x) (.type "list")) false)
    (Builtin.«list.__eq__» ⟨[.ref l, .ref x], []⟩) (.val .notImplemented) := by
  intro prog w A R s ⟨hl, hi⟩ h
  obtain ⟨hp, g, d, tk, os⟩ := s
  have hi := hi prog w
  wp_walk using hi.here, wpAny_loadPart' hl
  exact h
theorem tuple_eq_ins (l x : Addr) {items : Array Value} {n : Nat} {dd : Option Addr} {sl : Array (Option Value)} : GivesAt (fun s => s.heap.get? l = some { cls := .type "tuple", dict := dd, data := .seq items n, slots := sl } ∧ ∀ prog w, Looks (model prog w) s.heap (isInstance (.ref x) (.type "tuple")) false)
    (Builtin.«tuple.__eq__» ⟨[.ref l, .ref x], []⟩) (.val .notImplemented) := by
  intro prog w A R s ⟨hl, hi⟩ h
  obtain ⟨hp, g, d, tk, os⟩ := s
  have hi := hi prog w
  wp_walk using hi.here, wpAny_loadPart' hl
  exact h
/-- v == x, v of a built-in type whose own == declines, x an instance with an own == -/
theorem eq_refl_K {Q : Value → Shared → Prop} {v : Value} {T id : String} {ox : Obj} (hu : A.units < cLine) (F : Fr h₀ L s.heap m) (X₀ : K.In h₀) (I : InstAt s.heap x ox C od) (hT : s.TypeIs v T) (slot : Slot T (cmpInfo .Eq).2.1 id)
    (hsub : subIn K (.ref C) (.type T) = some false) (hs : findIn K (.ref C) "__eq__" = some (some (.ref f))) (hf : isFn K (.ref f) = true)
    (hc : ∀ Q' : Value → Shared → Prop, Q' .notImplemented s → wpAny (model prog w) A (call (.builtin id) [v, .ref x]) Q' E s)
    (h : wpAny (model prog w) A (call (.ref f) [.ref x, v]) (PySem.W.CmpBack Q) E s) : wpAny (model prog w) A (richCompare .Eq v (.ref x)) Q E s := by
  have X := X₀.keeps F.keep
  have two : wpAny (model prog w) A (tryCompare (.ref x) "__eq__" v) (fun r s' => ∃ u, r = some u ∧ Q u s') E s := by
    unfold tryCompare
    refine wpAny_bind (ifBound_K X I hs hf (wpAny_mono h (fun v s' hv => ?_) fun _ _ e => e))
    cases v <;> first | exact hv.elim | exact wpAny_pure ⟨_, rfl, hv⟩
  have hne : (Value.type T != Value.ref C) = true := by
    rw [bne_iff_ne]; intro z; cases z
  simp only [richCompare, cmpInfo, hT.oneThing_none] at slot ⊢
  refine wpAny_holding ?_
  refine wpAny_bind (wpAny_cRoomFor hu ?_)
  refine wpAny_bind (wpAny_typeOf hT (wpAny_bind (I.type.here ?_)))
  simp only [hne, if_true]
  refine wpAny_bind ((looks_subIn X hsub).here ?_)
  simp only [Bool.false_eq_true, if_false, Bool.not_false, if_true]
  refine wpAny_bind (m := tryCompare v _ (.ref x)) (wpAny_tryCompare_declines hT slot (hc _ ⟨rfl, ?_⟩))
  refine wpAny_bind (wpAny_mono two (fun r s' z => ?_) fun _ _ e => e)
  obtain ⟨u, rfl, hq⟩ := z
  exact wpAny_pure hq
end
end Lm

namespace Lm
open PySem L2 RZ
theorem walk_zipT {K : PySem.W.Frag} {a b : Addr} {xs ys : List V} {n : Nat} (hn : n = min xs.length ys.length) : Walk (ItzT K a b) n (fun H => SqT K H a xs ∧ SqT K H b ys) (YPair (fun i => xs[i]?) (fun i => ys[i]?)) := by
  subst hn
  refine ⟨fun i _ hi q => ?_, fun _ q => ⟨xs, ys, q.1, q.2, by omega⟩, fun i H v H' _ q y => ?_⟩
  · have h1 : i < xs.length := by omega
    have h2 : i < ys.length := by omega
    exact ⟨xs, ys, xs[i], ys[i], q.1, q.2, by simp [h1], by simp [h2]⟩
  · obtain ⟨T, x, z, h1, h2, h3, h4, h5⟩ := y
    exact ⟨T, x, z, h1, h2, h3, h4 xs q.1, h5 ys q.2⟩
/-- built-in values whose own == declines an instance -/
inductive TyE (H : Hp) : V → String → Prop where
  | non : TyE H .non "NoneType"
  | int (i : Int) : TyE H (.int i) "int"
  | str (x : Str) : TyE H (.str x) "str"
  | lst {a : Addr} {xs : List V} (e : H a = some (.lst xs)) : TyE H (.ref a) "list"
  | tup {a : Addr} {xs : List V} (e : H a = some (.tup xs)) : TyE H (.ref a) "tuple"
section
variable {X : Cx} {CX : CXT} {k : Nat} {f C : Addr} {fd : FuncData} {ps : List Str} {sp : Sp} {E : XK}
theorem op_or {op : Value → Value → Sem Value} {r r' : R2} (h : OpR X op r) (h' : OpR X op r') : OpR X op (fun x y H Q => r x y H Q ∨ r' x y H Q) := by
  intro pins s σ H x y v u Q I rx ry q
  rcases q with q | q
  · exact h pins s σ H x y v u Q I rx ry q
  · exact h' pins s σ H x y v u Q I rx ry q
/-- x == y, x an instance with an own ==, y anything -/
def rEqL (K : PySem.W.Frag) (C : Addr) (sp : Sp) (E : XK) : R2 := fun x y H Q => ∃ a dx fs t, x = .ref a ∧ H a = some (.ins C dx fs) ∧ TyX K H y t ∧ PySem.W.notFirst K C t = true ∧ sp [x, y] H Q E
theorem op_eqL (F : FnOk X.prog X.w X.K X.mg X.base CX k f fd ps sp) (hs : PySem.W.findIn X.K (.ref C) "__eq__" = some (some (.ref f))) (hf : PySem.W.isFn X.K (.ref f) = true) (hb : Binds X.K fd ps []) (hr : Room k X.A) (hx : Passes CX X E) :
    OpR X (compareOp .Eq) (rEqL X.K C sp E) := by
  intro pins s σ H x y v u Q I rx ry h
  obtain ⟨a, dx, fs, t, rfl, ha, ty, hn, q⟩ := h
  cases (show v = Value.ref a from rx)
  obtain ⟨mA, J, _⟩ := ins_get I.hok ha
  obtain ⟨od, J, _⟩ := J.look
  obtain ⟨P, Z, p, _⟩ := kit_of I ry ty
  obtain ⟨m, hF⟩ := I.fr
  show wpAny _ _ (richCompare .Eq _ _) _ _ _
  refine PySem.W.cmp_K (op := .Eq) (tb := t) hr.units0 hF I.ok.mod.kin J (Z.ty _ _ I.kIn p) hn hs hf (wpAny_mono (run_in (us := [.ref a, u]) (vs := [.ref a, y]) F hr I.env0 hb hx I (.cons rfl (.cons ry .nil)) q) (fun w s' z => ?_) fun _ _ x => x)
  obtain ⟨z', H', I', rz, qz⟩ := z
  exact cmpBack rz ⟨z', H', I', rz, qz⟩
/-- x != y, x an instance with an own == alone, y anything -/
def rNeL (K : PySem.W.Frag) (C : Addr) (sp : Sp) (E : XK) : R2 := fun x y H Q => ∃ a dx fs t, x = .ref a ∧ H a = some (.ins C dx fs) ∧ TyX K H y t ∧ PySem.W.notFirst K C t = true ∧ sp [x, y] H (fun z H' => ∃ k : Bool, z = .bl k ∧ Q (.bl (!k)) H') E
theorem op_neL (F : FnOk X.prog X.w X.K X.mg X.base CX k f fd ps sp) (hs : PySem.W.findIn X.K (.ref C) "__eq__" = some (some (.ref f))) (hf : PySem.W.isFn X.K (.ref f) = true) (hb : Binds X.K fd ps [])
    (hn : PySem.W.findIn X.K (.ref C) "__ne__" = some (some (.builtin "object.__ne__"))) (ho : PySem.W.subIn X.K (.ref C) (.type "object") = some true) (hr : Room (k + 1) X.A) (hx : Passes CX X E) :
    OpR X (compareOp .NotEq) (rNeL X.K C sp E) := by
  intro pins s σ H x y v u Q I rx ry h
  obtain ⟨a, dx, fs, t, rfl, ha, ty, hnf, q⟩ := h
  cases (show v = Value.ref a from rx)
  obtain ⟨mA, J, _⟩ := ins_get I.hok ha
  obtain ⟨od, J, _⟩ := J.look
  obtain ⟨P, Z, p, _⟩ := kit_of I ry ty
  obtain ⟨m, hF⟩ := I.fr
  show wpAny _ _ (richCompare .NotEq _ _) _ _ _
  refine ne_own (tb := t) (by have := hr.un; omega) hF I.ok.mod.kin J (Z.ty _ _ I.kIn p) hnf hn ho hs hf
    (wpAny_mono (run_in (us := [.ref a, u]) (vs := [.ref a, y]) F hr.in1 I.env0.in1 hb hx I (.cons rfl (.cons ry .nil)) q) (fun w s' z => ?_) fun _ _ x => x)
  obtain ⟨z', H', I', rz, b, ez, qz⟩ := z
  subst ez
  cases (show w = Value.bool b from rz)
  exact ⟨b, rfl, .bl _, H', I', rfl, qz⟩
/-- x == y, x of a built-in type, y an instance with an own == -/
def rEqR (K : PySem.W.Frag) (C : Addr) (sp : Sp) (E : XK) : R2 := fun x y H Q => ∃ b dy gs T, y = .ref b ∧ H b = some (.ins C dy gs) ∧ TyE H x T ∧ PySem.W.subIn K (.ref C) (.type T) = some false ∧ sp [y, x] H Q E
theorem op_eqR (F : FnOk X.prog X.w X.K X.mg X.base CX k f fd ps sp) (hs : PySem.W.findIn X.K (.ref C) "__eq__" = some (some (.ref f))) (hf : PySem.W.isFn X.K (.ref f) = true) (hb : Binds X.K fd ps []) (hr : Room k X.A) (hx : Passes CX X E) :
    OpR X (compareOp .Eq) (rEqR X.K C sp E) := by
  intro pins s σ H x y v u Q I rx ry h
  obtain ⟨b, dy, gs, T, rfl, hb', ty, hsub, q⟩ := h
  cases (show u = Value.ref b from ry)
  obtain ⟨mA, J, _⟩ := ins_get I.hok hb'
  obtain ⟨od, J, _⟩ := J.look
  obtain ⟨m, hF⟩ := I.fr
  show wpAny _ _ (richCompare .Eq _ _) _ _ _
  have run : wpAny (model X.prog X.w) X.A (call (.ref f) [.ref b, v]) (PySem.W.CmpBack (EP X pins σ Q)) X.xe s := by
    refine wpAny_mono (run_in (us := [.ref b, v]) (vs := [.ref b, x]) F hr I.env0 hb hx I (.cons rfl (.cons rx .nil)) q) (fun w s' z => ?_) fun _ _ x => x
    obtain ⟨z', H', I', rz, qz⟩ := z
    exact cmpBack rz ⟨z', H', I', rz, qz⟩
  have hin : ∀ (T : String), PySem.W.subIn X.K (.ref C) (.type T) = some false → ∀ prog w, PySem.W.Looks (model prog w) s.heap (isInstance (.ref b) (.type T)) false := fun T h prog w => J.type.andThen (PySem.W.looks_subIn I.kIn h)
  cases ty with
  | non =>
    cases (show v = Value.none from rx)
    exact eq_refl_K hr.units0 hF I.ok.mod.kin J rfl PySem.F.slot_NoneType_eq hsub hs hf (fun Q' hq => call_gives PySem.F.slot_NoneType_eq rfl PySem.F.entry_NoneType_eq (PySem.F.args_NoneType_eq_2 _ _) (SeqAt.NoneType___eq___none_ref_0 b) hq) run
  | int i =>
    obtain ⟨t, e⟩ := (show ∃ t, v = Value.int i t from rx)
    subst e
    exact eq_refl_K hr.units0 hF I.ok.mod.kin J (typeIs_int _ i t) PySem.F.slot_int_eq hsub hs hf (fun Q' hq => PySem.call_givesAt PySem.F.slot_int_eq (typeIs_int _ i t) PySem.F.entry_int_eq (PySem.F.args_int_eq_2 _ _) (int_eq_ins i t b) J.at_ hq) run
  | str i =>
    obtain ⟨t, e⟩ := (show ∃ t, v = Value.str i t from rx)
    subst e
    exact eq_refl_K hr.units0 hF I.ok.mod.kin J (typeIs_str _ i t) PySem.F.slot_str_eq hsub hs hf (fun Q' hq => PySem.call_givesAt PySem.F.slot_str_eq (typeIs_str _ i t) PySem.F.entry_str_eq (PySem.F.args_str_eq_2 _ _) (str_eq_ins i t b) J.at_ hq) run
  | @lst a xs e =>
    cases (show v = Value.ref a from rx)
    obtain ⟨_, _, n, _, h1⟩ := (show ObjOk X.prog X.w H s.heap a (.lst xs) from I.hok a _ e)
    exact eq_refl_K hr.units0 hF I.ok.mod.kin J ⟨_, h1, rfl⟩ PySem.F.slot_list_eq hsub hs hf (fun Q' hq => PySem.call_givesAt PySem.F.slot_list_eq ⟨_, h1, rfl⟩ PySem.F.entry_list_eq (PySem.F.args_list_eq_2 _ _) (list_eq_ins a b) ⟨h1, hin _ hsub⟩ hq) run
  | @tup a xs e =>
    cases (show v = Value.ref a from rx)
    obtain ⟨_, _, _, ⟨oc, od', dt, sl⟩, h1, h2, n, h3⟩ := (show ObjOk X.prog X.w H s.heap a (.tup xs) from I.hok a _ e)
    simp only at h2 h3
    subst h2 h3
    exact eq_refl_K hr.units0 hF I.ok.mod.kin J ⟨_, h1, rfl⟩ PySem.F.slot_tuple_eq hsub hs hf (fun Q' hq => PySem.call_givesAt PySem.F.slot_tuple_eq ⟨_, h1, rfl⟩ PySem.F.entry_tuple_eq (PySem.F.args_tuple_eq_2 _ _) (tuple_eq_ins a b) ⟨h1, hin _ hsub⟩ hq) run
theorem MetOk.eqL (D : MetOk X.prog X.w X.K X.mg X.base k C "__eq__" f fd ps sp) (hr : Room k X.A) : OpR X (compareOp .Eq) (rEqL X.K C sp E0) := op_eqL D.ok D.mt.at_ D.mt.fn D.bd hr pass0
theorem MetOk.eqR (D : MetOk X.prog X.w X.K X.mg X.base k C "__eq__" f fd ps sp) (hr : Room k X.A) : OpR X (compareOp .Eq) (rEqR X.K C sp E0) := op_eqR D.ok D.mt.at_ D.mt.fn D.bd hr pass0
theorem MetOk.neL (D : MetOk X.prog X.w X.K X.mg X.base k C "__eq__" f fd ps sp) (hn : PySem.W.findIn X.K (.ref C) "__ne__" = some (some (.builtin "object.__ne__"))) (ho : PySem.W.subIn X.K (.ref C) (.type "object") = some true) (hr : Room (k + 1) X.A) :
    OpR X (compareOp .NotEq) (rNeL X.K C sp E0) := op_neL D.ok D.mt.at_ D.mt.fn D.bd hn ho hr pass0
end
def rAddS : R2 := fun x y H Q => ∃ i j, x = .str i ∧ y = .str j ∧ i.length + j.length ≤ sizeLine ∧ Q (.str (i ++ j)) H
/-! ### C(k2 = b, k1 = a) -/
def swapR {α : Type} (us ws : List α) : List α := us ++ ws.reverse
theorem vals_snoc : ∀ {vs : List V} {us : List Value} {v : V} {u : Value}, Vals vs us → RelV v u → Vals (vs ++ [v]) (us ++ [u])
  | _, _, _, _, .nil, r => .cons r .nil
  | _, _, _, _, .cons a b, r => .cons a (vals_snoc b r)
theorem vals_rev : ∀ {vs : List V} {us : List Value}, Vals vs us → Vals vs.reverse us.reverse
  | _, _, .nil => .nil
  | _, _, .cons a b => by rw [List.reverse_cons, List.reverse_cons]; exact vals_snoc (vals_rev b) a
theorem vals_app : ∀ {vs : List V} {us : List Value} {ws : List V} {zs : List Value}, Vals vs us → Vals ws zs → Vals (vs ++ ws) (us ++ zs)
  | _, _, _, _, .nil, r => r
  | _, _, _, _, .cons a b, r => .cons a (vals_app b r)
theorem Fun.swap {K : PySem.W.Frag} {x qual : Str} {st : Stmt} {f : Addr} {fd : FuncData} {ps : List Str} {k1 k2 : Str} (F : Fun K x qual st f fd)
    (h : ∀ (kV doc pm : Value) (an : Option Addr) (cdv ct : Value) (a b c : Value), bindArgs (PySem.W.fnOf x qual (defArgs st) (defBody st) (defScope st) .none kV doc pm an cdv ct) ⟨[a], [(k2, c), (k1, b)]⟩ = pure (ps.zip [a, b, c])) : KBn K fd ps 1 [k2, k1] swapR swapR := by
  obtain ⟨oc, od, kV, doc, pm, an, cdv, ct, osl, rfl, lk, hcd⟩ := F.ex
  refine ⟨fun s us ws X l1 l2 => ?_, fun r1 r2 => vals_app r1 (vals_rev r2)⟩
  match us, ws, l1, l2 with
  | [a], [c, b], _, _ => exact .of_eq (h kV doc pm an cdv ct a b c)
section
variable {X : Cx} {k : Nat} {f C : Addr} {fd : FuncData} {ps ks : List Str} {sp : Sp} {x : Str} {p pos : Pos} {kws : List Keyword} {tk : TA} {g : List Value → List Value → List Value} {gV : List V → List V → List V}
theorem pe_mkK (D : ClsOk X.prog X.w X.K X.mg X.base k x C f fd ps sp) (hb : KBn X.K fd ps 1 ks g gV) (hr : Room (k + 1) X.A) (hkw : PK X kws tk) (hg : Gl X x := by rfl) (hdb : (x == ("__debug__" : Str)) = false := by decide)
    (hall : (backToKw pos (keywordEach kws X.env)).all (·.1.isSome) = true := by rfl) (hks : (backToKw pos (keywordEach kws X.env)).filterMap (·.1) = ks := by rfl)
    (hpl : ((backTo pos (starEach [] X.env)).any (·.1) || (backToKw pos (keywordEach kws X.env)).any (·.1.isNone)) = false := by rfl) :
    PE X (.Call (.Name x p) [] kws pos) (tMakeK C 0 ks.length sp gV E0 tNil tk) := pe_makeK0 D.mkr D.ok hr hg D.mg hb pass0 hkw hall hks hdb hpl
end
end Lm

namespace Lm
open PySem L2
section
variable {X : Cx} {C : Addr} {bmB : List Value} {B newId initId : String}
/-- X(), X an own exception class without own __init__ -/
theorem pmk_own0 {x : Str} {p pos : Pos} (F : ExcBaseFacts B newId initId bmB) (q : PySem.W.excIn X.K C bmB newId = true) (gC : X.mg x = some (.ref C)) (kC : PySem.W.keepIn X.K (.ref C) = true) (r : Raises X (.ref C)) (hg : Gl X x := by rfl) (hdb : (x == ("__debug__" : Str)) = false := by decide) :
    PMk X (.Call (.Name x p) [] [] pos) (fun _ H Q => Q (.ref C) none H) := by
  intro pins s σ H Q I h
  refine wpAny_Call_Name_kw (ld_glob I hg gC ?_ hdb)
  refine PySem.W.callWith_K0 (first := []) I.kIn kC ?_
  show wpAny _ _ (call (.ref C) []) _ _ _
  obtain ⟨bm, N, nm, qn, bs, hdct, sn, sub, ab, col, dd, k0, k1, k2, k3, k5, mN, hC, hN, hni, T⟩ := exc_obj I.kIn q
  refine wpAny_call_exc_subT F T hC hN hni (fun h' e hm => ?_) (Nat.zero_le _)
  exact mk_of I hm r h (I.hok.gone hm.new)
end
/-- what the text says of an own error -/
structure ErrTxt (K : PySem.W.Frag) (mg : Str → Option Value) (x : Str) (C : Addr) : Prop where
  g : mg x = some (.ref C)
  xi : PySem.W.excIn K C [.type "ValueError", .type "Exception", .type "BaseException", .type "object"] "ValueError.__new__" = true
  kp : PySem.W.keepIn K (.ref C) = true
  b : PySem.W.subIn K (.ref C) (.type "BaseException") = some true
  t : PySem.W.typeIn K (.ref C) = some (.type "type")
  ic : PySem.W.isClsIn K C = true
  self : PySem.W.subIn K (.ref C) (.ref C) = some true
/-- an error of the class at S is what «except S» names -/
theorem exm_self {K : PySem.W.Frag} {S : Addr} (h1 : PySem.W.subIn K (.ref S) (.type "BaseException") = some true) (h2 : PySem.W.isClsIn K S = true) (h3 : PySem.W.typeIn K (.ref S) = some (.type "type")) (h4 : PySem.W.subIn K (.ref S) (.ref S) = some true) :
    PySem.W.exmOne K (.ref S) (.ref S) = some true := by
  have e1 : (PySem.W.subIn K (.ref S) (.type "BaseException") == some true) = true := by rw [h1] <;> rfl
  have e2 : ((PySem.W.clsIn K S).isSome && PySem.W.typeIn K (.ref S) == some (.type "type")) = true := by
    have h2' : (PySem.W.clsIn K S).isSome = true := h2
    rw [h2', h3] <;> rfl
  show (if (PySem.W.subIn K (.ref S) (.type "BaseException") == some true) = true then (if ((PySem.W.clsIn K S).isSome && PySem.W.typeIn K (.ref S) == some (.type "type")) = true then PySem.W.subIn K (.ref S) (.ref S) else none) else none) = some true
  rw [if_pos e1, if_pos e2]
  exact h4
theorem ErrTxt.exm {K : PySem.W.Frag} {mg : Str → Option Value} {x : Str} {C : Addr} (T : ErrTxt K mg x C) : PySem.W.exmOne K (.ref C) (.ref C) = some true := exm_self T.b T.ic T.t T.self
theorem ErrTxt.call {X : Cx} {x : Str} {C : Addr} {p pos : Pos} (T : ErrTxt X.K X.mg x C) (hg : Gl X x := by rfl) (hdb : (x == ("__debug__" : Str)) = false := by decide) : PMk X (.Call (.Name x p) [] [] pos) (fun _ H Q => Q (.ref C) none H) :=
  pmk_own0 PySem.F.excBase_ValueError T.xi T.g T.kp (raises_own T.b T.t) hg hdb
/-! ### defs and methods that raise -/
structure DefOkX (P : Program) (w : World) (K : PySem.W.Frag) (mg : Str → Option Value) (base : Heap) (k : Nat) (x : Str) (f : Addr) (fd : FuncData) (ps : List Str) (sp : Sp) : Prop where
  ok : FnOk P w K mg base (L2.CX P w) k f fd ps sp
  kp : PySem.W.keepIn K (.ref f) = true
  bd : Binds K fd ps []
  mg : mg x = some (.ref f)
structure MetOkX (P : Program) (w : World) (K : PySem.W.Frag) (mg : Str → Option Value) (base : Heap) (k : Nat) (C : Addr) (m : Str) (f : Addr) (fd : FuncData) (ps : List Str) (sp : Sp) : Prop where
  ok : FnOk P w K mg base (L2.CX P w) k f fd ps sp
  bd : Binds K fd ps []
  mt : Meth K C m f
  cl : Cls K C
/-- o.m(e, ..) that may raise, at the slots -/
def tMethE (C : Addr) (m : Str) (sp : Sp) (E : St → XK) (ta : TE) (t : TA) : TE := fun σ H Q => ta σ H fun x H1 => ∃ a dx fs, x = .ref a ∧ H1 a = some (.ins C dx fs) ∧ fs.lookup m = none ∧ t σ H1 fun vs H2 => sp (.ref a :: vs) H2 Q (E σ)
/-- o.m(k = v, ..) -/
def tMethK (C : Addr) (m : Str) (n : Nat) (sp : Sp) (gV : List V → List V → List V) (E : XK) (ta : TE) (tk : TA) : TE := fun σ H Q => ta σ H fun x H1 => ∃ a dx fs, x = .ref a ∧ H1 a = some (.ins C dx fs) ∧ fs.lookup m = none ∧ tk σ H1 fun zs H2 => zs.length = n ∧ sp (gV [.ref a] zs) H2 Q E
section
variable {X : Cx} {k : Nat} {f C : Addr} {fd : FuncData} {ps ks : List Str} {sp : Sp} {E : XK} {x m : Str} {p pos apos : Pos} {e o : Expr} {es : List Expr} {kws : List Keyword} {ta : TE} {t tk : TA} {g : List Value → List Value → List Value} {gV : List V → List V → List V}
theorem pe_dX (D : DefOkX X.prog X.w X.K X.mg X.base k x f fd ps sp) (hr : Room k X.A) (hx : Passes (L2.CX X.prog X.w) X E) (ha : PA X (e :: es) t) (hg : Gl X x := by rfl) (hdb : (x == ("__debug__" : Str)) = false := by decide)
    (he : starEach (e :: es) X.env = (false, eval e X.env) :: starEach es X.env := by rfl) (hpl : (backTo pos (starEach es X.env)).any (·.1) = false := by rfl) :
    PE X (.Call (.Name x p) (e :: es) [] pos) (tCall sp [] E t) := pe_call D.ok hr hg D.mg D.kp D.bd .nil hx ha hdb he hpl
theorem pe_mX {pl : Sem Bool} {E : St → XK} (D : MetOkX X.prog X.w X.K X.mg X.base k C m f fd ps sp) (hr : Room k X.A) (hx : ∀ σ, PassesAt (L2.CX X.prog X.w) X σ (E σ)) (he : PE X o ta) (ha : PA X (e :: es) t)
    (hst : starEach (e :: es) X.env = (false, eval e X.env) :: starEach es X.env := by rfl) (hpl : (backTo pos (starEach es X.env)).any (·.1) = false := by rfl)
    (ht : eval (.Call (.Attribute o m apos) (e :: es) [] pos) X.env = (do
      let ov ← eval o X.env
      standAt apos.atName
      let (f, first) ← holding [ov] (getMethod ov m pl)
      callWith pos f first (backTo pos (starEach (e :: es) X.env)) (backToKw pos (keywordEach [] X.env))) := by rfl) :
    PE X (.Call (.Attribute o m apos) (e :: es) [] pos) (tMethE C m sp E ta t) := by
  refine ⟨fun pins s σ H Q I h => ?_⟩
  refine PySem.W.methodCall_KW (pl := pl) (thn (he.run pins s σ H _ I h) fun u s1 ⟨x, H1, I1, rx, a, dx, fs, ex, ea, l, q⟩ => ?_) ht
  subst ex
  obtain rfl : u = Value.ref a := rx
  refine getmeth_ok I1 ea D.cl D.mt l ?_
  refine PySem.W.callWith_K (first := [.ref a]) (h₀ := X.base) I.ok.mod.kin D.mt.kp (thn (ha.run pos pins s1 σ H1 _ I1 q) fun us s2 ⟨vs, H2, I2, r, q2⟩ => ⟨I2.kIn, ?_⟩) hst hpl
  exact run_fnS (us := .ref a :: us) (vs := .ref a :: vs) D.ok hr D.bd (hx σ) I2 (.cons rfl r) q2
theorem pe_mk_ {pl : Sem Bool} (D : MetOk X.prog X.w X.K X.mg X.base k C m f fd ps sp) (hb : KBn X.K fd ps 1 ks g gV) (hr : Room k X.A) (he : PE X o ta) (hkw : PK X kws tk)
    (hall : (backToKw pos (keywordEach kws X.env)).all (·.1.isSome) = true := by rfl) (hks : (backToKw pos (keywordEach kws X.env)).filterMap (·.1) = ks := by rfl)
    (hpl : ((backTo pos (starEach [] X.env)).any (·.1) || (backToKw pos (keywordEach kws X.env)).any (·.1.isNone)) = false := by rfl)
    (ht : eval (.Call (.Attribute o m apos) [] kws pos) X.env = (do
      let ov ← eval o X.env
      standAt apos.atName
      let (f, first) ← holding [ov] (getMethod ov m pl)
      callWith pos f first (backTo pos (starEach [] X.env)) (backToKw pos (keywordEach kws X.env))) := by rfl) :
    PE X (.Call (.Attribute o m apos) [] kws pos) (tMethK C m ks.length sp gV E0 ta tk) := by
  refine ⟨fun pins s σ H Q I h => ?_⟩
  refine PySem.W.methodCall_KW (pl := pl) (thn (he.run pins s σ H _ I h) fun u s1 ⟨x, H1, I1, rx, a, dx, fs, ex, ea, l, q⟩ => ?_) ht
  subst ex
  obtain rfl : u = Value.ref a := rx
  refine getmeth_ok I1 ea D.cl D.mt l ?_
  refine PySem.W.callWith_KW0 (first := [.ref a]) (h₀ := X.base) I.ok.mod.kin D.mt.kp hall ?_ hpl
  refine thn (hkw.run pos pins s1 σ H1 _ I1 q) fun ws s2 ⟨zs, H2, I2, rz, l2, q2⟩ => ⟨I2.kIn, ?_⟩
  rw [hks]
  have r2 := hb.rel (vs := [V.ref a]) (us := [Value.ref a]) (.cons rfl .nil) rz
  show wpAny _ _ (call (.ref f) [.ref a] (ks.zip ws)) _ _ _
  refine wpAny_call (codeAny_mono (D.ok.run X.A X.stack s2 H2 ⟨[.ref a], ks.zip ws⟩ (g [.ref a] ws) (gV [.ref a] zs) Q E0 hr I2.env0 (hb.to s2 [.ref a] ws I2.kIn rfl (rz.length.symm.trans l2)) r2 q2) fun r s' hq => ?_)
  cases r with
  | error e => exact pass0 pins σ H2 s2 e s' I2 hq
  | ok fl =>
    cases fl with
    | ret u => exact I2.after hq
    | next => exact False.elim hq
    | brk => exact False.elim hq
    | cont => exact False.elim hq
end
/-- one keyword alone -/
def oneR {α : Type} (us ws : List α) : List α := us ++ ws
theorem Fun.kone {K : PySem.W.Frag} {x qual : Str} {st : Stmt} {f : Addr} {fd : FuncData} {ps : List Str} {k1 : Str} (F : Fun K x qual st f fd)
    (h : ∀ (kV doc pm : Value) (an : Option Addr) (cdv ct : Value) (a b : Value), bindArgs (PySem.W.fnOf x qual (defArgs st) (defBody st) (defScope st) .none kV doc pm an cdv ct) ⟨[a], [(k1, b)]⟩ = pure (ps.zip [a, b])) : KBn K fd ps 1 [k1] oneR oneR := by
  obtain ⟨oc, od, kV, doc, pm, an, cdv, ct, osl, rfl, lk, hcd⟩ := F.ex
  refine ⟨fun s us ws X l1 l2 => ?_, fun r1 r2 => vals_app r1 r2⟩
  match us, ws, l1, l2 with
  | [a], [b], _, _ => exact .of_eq (h kV doc pm an cdv ct a b)
end Lm

namespace Lm
open PySem L2 PyProof.Rows PySem.Spec
theorem tuple_mul_same (l : Addr) (items : Array Value) (n : Nat) (dd : Option Addr) (sl : Array (Option Value)) (x : Int) (u : Tok) (c0 : (decide (x < -(2 ^ 63)) || decide (x ≥ 2 ^ 63)) = false) (c1 : (items.isEmpty || x == 1) = true) :
    Meets (Builtin.«tuple.__mul__» ⟨[.ref l, .int x u], []⟩) (fun _ R s => s.heap.get? l = some { cls := .type "tuple", dict := dd, data := .seq items n, slots := sl } ∧ R (.ok (.ret (Value.ref l))) s) :=
  .of_wp fun prog w A R s h => by
    obtain ⟨hp, g, d, tk, os⟩ := s
    obtain ⟨hl, h⟩ := h
    have f1 := AutoSeq1.idx_int
    wp_walk using wpAny_loadPart' hl, wpAny_load hl
    repeat (first
      | (refine wpAny_ite_false (decide_eq_false (by rw [c0]; exact Bool.false_ne_true)) ?_; wp_walk using wpAny_loadPart' hl, wpAny_load hl)
      | (refine wpAny_ite_true (decide_eq_true (by rw [c1])) ?_; wp_walk using wpAny_loadPart' hl, wpAny_load hl))
    all_goals first | exact ⟨_, rfl, h⟩ | exact h | skip
theorem tuple_mul_zero (l : Addr) (items : Array Value) (n : Nat) (dd : Option Addr) (sl : Array (Option Value)) (x : Int) (u : Tok) (c0 : (decide (x < -(2 ^ 63)) || decide (x ≥ 2 ^ 63)) = false) (c1 : (items.isEmpty || x == 1) = false) (c2 : (decide (x ≤ 0) || items.isEmpty) = true) :
    Meets (Builtin.«tuple.__mul__» ⟨[.ref l, .int x u], []⟩) (fun _ R s => s.heap.get? l = some { cls := .type "tuple", dict := dd, data := .seq items n, slots := sl } ∧ 
      R (.ok (.ret (Value.ref s.heap.objs.size))) { s with heap := s.heap.push { cls := Value.type "tuple", data := Data.seq #[] }, toks := s.toks }) :=
  .of_wp fun prog w A R s h => by
    obtain ⟨hp, g, d, tk, os⟩ := s
    obtain ⟨hl, h⟩ := h
    have f1 := AutoSeq1.idx_int
    wp_walk using wpAny_loadPart' hl
    repeat (first
      | (refine wpAny_ite_false (decide_eq_false (by rw [c0]; exact Bool.false_ne_true)) ?_; wp_walk using wpAny_loadPart' hl)
      | (refine wpAny_ite_false (decide_eq_false (by rw [c1]; exact Bool.false_ne_true)) ?_; wp_walk using wpAny_loadPart' hl)
      | (refine wpAny_ite_true (decide_eq_true (by rw [c2])) ?_; wp_walk using wpAny_loadPart' hl))
    all_goals first | exact ⟨_, rfl, h⟩ | exact h | skip
def rRepTA (K : PySem.W.Frag) : R2 := fun x y H Q => ∃ l k xs, x = .ref l ∧ y = .int k ∧ SqT K H l xs ∧ 0 ≤ k ∧ k ≤ 1000 ∧ xs.length ≤ 1000 ∧ ((xs = [] ∨ k = 1) → Q (.ref l) H) ∧ (¬ (xs = [] ∨ k = 1) → ∀ p, H p = none → Q (.ref p) (upd H p (.tup (List.replicate k.toNat xs).flatten)))
section
variable {X : Cx}
theorem op_repTA : OpR X (binaryOp .Mult) (rRepTA X.K) := by
  intro pins s σ H x y v u Q I rx ry h
  obtain ⟨l, k, xs, rfl, rfl, hT, h1, h2, hz, q1, q2⟩ := h
  by_cases hsame : xs = [] ∨ k = 1
  · have q1 := q1 hsame
    cases rx
    obtain ⟨t, rfl⟩ := ry
    obtain ⟨its, r, ⟨⟨cls, dd, data, sl⟩, ho, hc, n, hd⟩, hs⟩ := I.tuple hT
    simp only at hc hd
    subst hc hd
    have hle : its.length = xs.length := r.length.symm
    have c0 : (decide (k < -(2 ^ 63)) || decide (k ≥ 2 ^ 63)) = false := by
      rw [decide_eq_false (by omega), decide_eq_false (by omega)] <;> rfl
    have c1 : (its.toArray.isEmpty || k == 1) = true := by
      rcases hsame with e | e
      · rw [e] at hle
        have : its = [] := List.eq_nil_of_length_eq_zero hle
        rw [this]
        rfl
      · rw [e]
        cases its <;> rfl
    refine wpAny_binaryOp_repeat_ref (T := "tuple") (U := "int") (by decide) ⟨_, ho, rfl⟩ (fun s' => typeIs_int s' k t) noFill_tuple_mul F.fills_int_mul F.slot_int_rmul repeat_tuple F.slot_int_index.lookup
      (call_meets F.slot_int_rmul (typeIs_int s k t) F.entry_int_rmul (F.args_int_rmul_2 _ _) (int_rmul_tuple k t l its.toArray n dd sl)
        ⟨ho, rfl, ⟨_, ho, rfl⟩, call_meets F.slot_tuple_mul ⟨_, ho, rfl⟩ F.entry_tuple_mul (F.args_tuple_mul_2 _ _) (tuple_mul_same l its.toArray n dd sl k t c0 c1) ⟨ho, ?_⟩⟩)
    exact ⟨.ref l, H, I, rfl, q1⟩
  · have q2 := q2 hsame
    have hne : xs ≠ [] := fun e => hsame (.inl e)
    have hk1 : k ≠ 1 := fun e => hsame (.inr e)
    by_cases hk : 2 ≤ k
    · exact op_repT pins s σ H _ _ v u Q I rx ry ⟨l, k, xs, rfl, rfl, hT, hne, hk, h2, hz, q2⟩
    · have hk0 : k = 0 := by omega
      subst hk0
      cases rx
      obtain ⟨t, rfl⟩ := ry
      obtain ⟨its, r, ⟨⟨cls, dd, data, sl⟩, ho, hc, n, hd⟩, hs⟩ := I.tuple hT
      simp only at hc hd
      subst hc hd
      have hle : its.length = xs.length := r.length.symm
      have hn : its ≠ [] := fun e => hne (by
        rw [e] at hle
        exact List.eq_nil_of_length_eq_zero hle.symm)
      have hi : its.toArray.isEmpty = false := by
        cases its with
        | nil => exact absurd rfl hn
        | cons a b => rfl
      refine wpAny_binaryOp_repeat_ref (T := "tuple") (U := "int") (by decide) ⟨_, ho, rfl⟩ (fun s' => typeIs_int s' 0 t) noFill_tuple_mul F.fills_int_mul F.slot_int_rmul repeat_tuple F.slot_int_index.lookup
        (call_meets F.slot_int_rmul (typeIs_int s 0 t) F.entry_int_rmul (F.args_int_rmul_2 _ _) (int_rmul_tuple 0 t l its.toArray n dd sl)
          ⟨ho, rfl, ⟨_, ho, rfl⟩, call_meets F.slot_tuple_mul ⟨_, ho, rfl⟩ F.entry_tuple_mul (F.args_tuple_mul_2 _ _) (tuple_mul_zero l its.toArray n dd sl 0 t (by decide) (by rw [hi]; rfl) (by rw [hi]; rfl)) ⟨ho, ?_⟩⟩)
      refine ⟨.ref s.heap.objs.size, _, I.laid (t' := s.toks) (o := .tup (List.replicate (0 : Int).toNat xs).flatten) (fun b ob q => Heap.get?_push_of_some _ q) (Nat.le_refl _) ?_, rfl, q2 _ (I.hok.fresh (Nat.le_refl _))⟩
      exact ⟨by show 0 ≤ sizeLine; decide, _, .nil, IsTup.new _ _⟩
end
end Lm

namespace Lm
open PySem L2 Evl
/-! ### own errors whose __init__ keeps one thing -/
/-- what the text says of an own error with __init__ -/
structure ErrF (K : PySem.W.Frag) (mg : Str → Option Value) (x : Str) (C fI : Addr) (fn : Str) : Prop where
  g : mg x = some (.ref C)
  T : OexC K C
  X : XfC K C
  ini : PySem.W.findIn K (.ref C) "__init__" = some (some (.ref fI))
  ty : PySem.W.typeIn K (.ref fI) = some (.type "function")
  no : PySem.W.findIn K (.ref C) fn = some none
  ic : PySem.W.isClsIn K C = true
  self : PySem.W.subIn K (.ref C) (.ref C) = some true
theorem ErrF.exm {K : PySem.W.Frag} {mg : Str → Option Value} {x : Str} {C fI : Addr} {fn : Str} (T : ErrF K mg x C fI fn) : PySem.W.exmOne K (.ref C) (.ref C) = some true := exm_self T.T.exC T.ic T.T.tyC T.self
def spErrI (C : Addr) (fn : Str) : Sp := fun vs H Q _ => ∃ (a : Addr) (v : V), vs = [.ref a, v] ∧ H a = some (exo a C none) ∧ ∀ dx, H dx = none → dx ≠ a → Q .non (upd (upd H dx (exd dx [(fn, v)])) a (exo a C (some dx)))
theorem go_mkO {C : Addr} {fn : Str} {te : TE} {σ : L2.St} {H : Hp} {Q : XK} {v : V} (h : Ev te σ H v) (k : ∀ H1 d, Ex H H1 → H1 d = none → Q (.ref C) (some d) (upd H1 d (.xd [(fn, v)]))) : tMkO C (spErrI C fn) [] (tCons te tNil) σ H Q :=
  h H (Ex.refl H) _ fun H1 e1 => ⟨by show 1 ≤ 1000; decide, fun a na => ⟨a, v, rfl, upd_same, fun dx ndx hda => ⟨rfl, dx, [(fn, v)], upd_same, by rw [upd_ne hda]; exact upd_same, by rw [upd_ne hda] at ndx; exact ndx, by
    have hn : H1 dx = none := by rw [upd_ne hda] at ndx; exact ndx
    have e : upd (del (upd (upd (upd H1 a (exo a C none)) dx (exd dx [(fn, v)])) a (exo a C (some dx))) a) dx (.xd [(fn, v)]) = upd H1 dx (.xd [(fn, v)]) := by
      funext b
      by_cases hb : b = dx
      · subst hb
        rw [upd_same, upd_same]
      · rw [upd_ne hb, upd_ne hb]
        by_cases hba : b = a
        · subst hba
          rw [del_same, na]
        · rw [del_ne hba, upd_ne hba, upd_ne hb, upd_ne hba]
    rw [e]
    exact k H1 dx e1 hn⟩⟩⟩
end Lm

namespace Lm
open PySem L2 PyProof.Rows PySem.Spec
section
variable {M : Model} {A : Around} {E : Value → Shared → Prop} {s : Shared} {K : PySem.W.Frag} {pos : Pos} {x C : Addr} {first : List Value} {Q : Value → Shared → Prop}
/-- the instance as it stands at each time -/
def InsK (K : PySem.W.Frag) (x C : Addr) (h : Heap) : Prop := ∃ ox od, K.In h ∧ PySem.W.InstAt h x ox C od ∧ ox.data = .plain
theorem callWith_ins {args : List (Bool × Sem Value)} {keywords : List (Option Str × Sem Value)} (hplain : (args.any (·.1) || keywords.any (·.1.isNone)) = false)
    (h : wpAny M A (evalArgs (.ref x) true args keywords) (fun a s₁ => InsK K x C s₁.heap ∧ wpAny M A (call (.ref x) (first ++ a.pos) a.kw) Q E s₁) E s) : wpAny M A (callWith pos (.ref x) first args keywords) Q E s := by
  unfold callWith
  refine wpAny_bind (wpAny_holding (wpAny_mono h (fun a s₁ h₁ => wpAny_bind (wpAny_standAt ?_)) fun _ _ y => y))
  obtain ⟨⟨ox, od, X, I, hd⟩, hc⟩ := h₁
  have L := PySem.W.kco_keeper (M := M) I hd
  simp only [hplain]
  refine wpAny_bind (L.here ?_)
  exact wpAny_bind (wpAny_mono (wpAny_operateT hc) (fun r s₂ hr => wpAny_bind (wpAny_holding (wpAny_point (wpAny_pure hr)))) fun _ _ y => y)
end
/-- what the text says of own __call__ -/
structure CallM (K : PySem.W.Frag) (C g : Addr) : Prop where
  at_ : PySem.W.findIn K (.ref C) "__call__" = some (some (.ref g))
  isF : PySem.W.isFn K (.ref g) = true
  fn : PySem.W.fnIn K g = true
/-- the i-th slot holds an instance, which is called -/
def tCallO (i : Nat) (C : Addr) (sp : Sp) (E : L2.St → XK) (t : TA) : TE := fun σ H Q => ∃ a, σ[i]? = some (some (.ref a)) ∧ t σ H fun vs H1 => (∃ dx fs, H1 a = some (.ins C dx fs)) ∧ sp (.ref a :: vs) H1 Q (E σ)
def tCallOk (i : Nat) (C : Addr) (n : Nat) (sp : Sp) (gV : List V → List V → List V) (E : XK) (tk : TA) : TE := fun σ H Q => ∃ a, σ[i]? = some (some (.ref a)) ∧ tk σ H fun zs H1 => (∃ dx fs, H1 a = some (.ins C dx fs)) ∧ zs.length = n ∧ sp (gV [.ref a] zs) H1 Q E
section
variable {X : Cx} {CX : CXT} {k i : Nat} {f C : Addr} {fd : FuncData} {ps ks : List Str} {sp : Sp} {x : Str} {p pos : Pos} {e : Expr} {es : List Expr} {kws : List Keyword} {t tk : TA} {g : List Value → List Value → List Value} {gV : List V → List V → List V}
theorem ins_k {pins : List (Addr × Obj)} {σ : L2.St} {H : Hp} {s : Shared} {a dx : Addr} {fs : List (Str × V)} (I : Inv X pins σ H s) (h : H a = some (.ins C dx fs)) : InsK X.K a C s.heap := by
  obtain ⟨mA, O, r, _, _, _⟩ := ins_get I.hok h
  obtain ⟨od, hI, _⟩ := O.look
  exact ⟨_, _, I.kIn, hI, rfl⟩
theorem pe_callO {E : L2.St → XK} (F : FnOk X.prog X.w X.K X.mg X.base CX k f fd ps sp) (hm : CallM X.K C f) (hr : Room k X.A) (hb : Binds X.K fd ps []) (hx : ∀ σ, PassesAt CX X σ (E σ)) (hN : X.N[i]? = some x) (hv : Vis X.env.scope x) (ha : PA X (e :: es) t)
    (hdb : (x == ("__debug__" : Str)) = false := by decide) (hcd : (x == ("__classdict__" : Str)) = false := by decide)
    (he : starEach (e :: es) X.env = (false, eval e X.env) :: starEach es X.env := by rfl) (hpl : (backTo pos (starEach es X.env)).any (·.1) = false := by rfl) : PE X (.Call (.Name x p) (e :: es) [] pos) (tCallO i C sp E t) := by
  refine ⟨fun pins s σ H Q I h => ?_⟩
  obtain ⟨a, hs, ht⟩ := h
  refine wpAny_Call_Name_kw (thn ((pe_var (pos := p) hN hv hdb hcd).run pins s σ H (fun v H1 => v = .ref a ∧ H1 = H) I ⟨.ref a, hs, rfl, rfl⟩) fun u s1 ⟨v, H1, I1, r1, q1⟩ => ?_)
  obtain ⟨rfl, rfl⟩ := q1
  cases r1
  rw [he]
  refine callWith_ins (K := X.K) (C := C) (by show ((false || (backTo pos (starEach es X.env)).any (·.1)) || false) = false; rw [hpl]; rfl) (PySem.Calls.evalArgs_plain ?_)
  have := ha.run pos pins s1 σ _ _ I1 ht
  rw [he] at this
  refine thn this fun us s2 ⟨vs, H2, I2, r, hi, q⟩ => ?_
  obtain ⟨dx, fs, hi⟩ := hi
  refine ⟨ins_k I2 hi, ?_⟩
  obtain ⟨ox, od, X1, J, hd⟩ := ins_k I2 hi
  have r2 : Vals (V.ref a :: vs) (Value.ref a :: us) := .cons rfl r
  have hl : (Value.ref a :: us ++ []).length = ps.length := by rw [List.append_nil, ← r2.length]; exact F.len _ _ _ _ q
  refine wpAny_call (PySem.W.kco_code X1 J hd hm.at_ hm.isF hm.fn ?_)
  refine codeAny_mono (F.run X.A X.stack s2 H2 ⟨Value.ref a :: us, []⟩ (Value.ref a :: us) (V.ref a :: vs) Q (E σ) hr I2.env0 (by have := hb s2 (Value.ref a :: us) I2.kIn hl; rw [List.append_nil] at this; exact this) r2 q) fun r s' hq => ?_
  cases r with
  | error e => exact hx σ pins H2 s2 e s' I2 hq
  | ok fl =>
    cases fl with
    | ret u => exact I2.after hq
    | next => exact False.elim hq
    | brk => exact False.elim hq
    | cont => exact False.elim hq
theorem pe_callOk {E : XK} (F : FnOk X.prog X.w X.K X.mg X.base CX k f fd ps sp) (hm : CallM X.K C f) (hr : Room k X.A) (hb : KBn X.K fd ps 1 ks g gV) (hx : Passes CX X E) (hN : X.N[i]? = some x) (hv : Vis X.env.scope x) (hkw : PK X kws tk)
    (hdb : (x == ("__debug__" : Str)) = false := by decide) (hcd : (x == ("__classdict__" : Str)) = false := by decide)
    (hall : (backToKw pos (keywordEach kws X.env)).all (·.1.isSome) = true := by rfl) (hks : (backToKw pos (keywordEach kws X.env)).filterMap (·.1) = ks := by rfl)
    (hpl : ((backTo pos (starEach [] X.env)).any (·.1) || (backToKw pos (keywordEach kws X.env)).any (·.1.isNone)) = false := by rfl) : PE X (.Call (.Name x p) [] kws pos) (tCallOk i C ks.length sp gV E tk) := by
  refine ⟨fun pins s σ H Q I h => ?_⟩
  obtain ⟨a, hs, ht⟩ := h
  refine wpAny_Call_Name_kw (thn ((pe_var (pos := p) hN hv hdb hcd).run pins s σ H (fun v H1 => v = .ref a ∧ H1 = H) I ⟨.ref a, hs, rfl, rfl⟩) fun u s1 ⟨v, H1, I1, r1, q1⟩ => ?_)
  obtain ⟨rfl, rfl⟩ := q1
  cases r1
  refine callWith_ins (K := X.K) (C := C) hpl (evalArgs_kw2_nil hall ?_)
  refine thn (hkw.run pos pins s1 σ _ _ I1 ht) fun ws s2 ⟨zs, H2, I2, rz, hi, l2, q⟩ => ?_
  obtain ⟨dx, fs, hi⟩ := hi
  rw [hks]
  refine ⟨ins_k I2 hi, ?_⟩
  obtain ⟨ox, od, X1, J, hd⟩ := ins_k I2 hi
  have r2 := hb.rel (vs := [V.ref a]) (us := [Value.ref a]) (.cons rfl .nil) rz
  show wpAny _ _ (call (.ref a) [] (ks.zip ws)) _ _ _
  refine wpAny_call (PySem.W.kco_code X1 J hd hm.at_ hm.isF hm.fn ?_)
  refine codeAny_mono (F.run X.A X.stack s2 H2 ⟨[.ref a], ks.zip ws⟩ (g [.ref a] ws) (gV [.ref a] zs) Q E hr I2.env0 (hb.to s2 [.ref a] ws I2.kIn rfl (rz.length.symm.trans l2)) r2 q) fun r s' hq => ?_
  cases r with
  | error e => exact hx pins σ H2 s2 e s' I2 hq
  | ok fl =>
    cases fl with
    | ret u => exact I2.after hq
    | next => exact False.elim hq
    | brk => exact False.elim hq
    | cont => exact False.elim hq
end
end Lm

namespace Lm
open PySem L2 LamX PySem.Spec PyProof.Rows
/-! ### a lambda handed to a def that handles its errors: what is wished of an error may speak of the def's own slots -/
section
variable {X : Cx} {pins : List (Addr × Obj)} {σ : L2.St} {H : Hp} {s : Shared}
theorem pe_actS {CXg : CXT} {Eg : XK} {Ng : List Str} {qg : Str} {sg : Scope} {g f c' : Addr} {cdg pm ctv : Value} {params : Arguments} {body : Expr} {scope : Scope} {k i : Nat} {a : Str} {pn : List (Addr × Obj)} {xe : Value → Shared → Prop} {W : WX} {tb : XK → TE} {p1 p2 : Pos}
    (I : Inv X pins σ H s) (L : LamS X.env.scope scope) (hf : s.heap.get? f = some (PySem.W.kla_obj "<lambda>" (X.env.qual ++ "<lambda>") params body scope (cloFrom X.env.cells scope.names []) pm c' ctv)) (hfn : H f = none) (hfr : f ∉ frs X.stack)
    (hbind : bindArgs (PySem.W.kla_fn "<lambda>" (X.env.qual ++ "<lambda>") params body scope (cloFrom X.env.cells scope.names []) pm (.ref c') ctv) ⟨[], []⟩ = pure [])
    (tk : Takes ((cxOf CXg X.prog X.w X.K X.mg X.base Ng qg sg g cdg X.A X.stack s H Eg).tr pn xe) W) (hr : Room (k + 1) (X.A.deeper (envOfC qg sg s.heap.objs.size g cdg)))
    (hbody : ∀ (E : XK) (A : Around) (outer : List Env) (s : Shared) (H : Hp), Room k (A.deeper (lamEnv X scope s.heap.objs.size f c')) → PE (lamCx X A outer s H E scope f c') body (tb E))
    (hN : Ng[i]? = some a) (hv : Vis sg a) (hd : (a == ("__debug__" : Str)) = false := by decide) (hcd : (a == ("__classdict__" : Str)) = false := by decide) :
    PE ((cxOf CXg X.prog X.w X.K X.mg X.base Ng qg sg g cdg X.A X.stack s H Eg).tr pn xe) (.Call (.Name a p1) [] [] p2)
      (fun σZ HZ Q => σZ[i]? = some (some (.ref f)) ∧ HZ c' = some (CodeO c' (X.env.qual ++ "<lambda>")) ∧ tb (WE W σZ) σ HZ Q) := by
  refine ⟨fun pinsZ sZ σZ HZ Q IZ h => ?_⟩
  obtain ⟨hs, hc, ht⟩ := h
  refine wpAny_Call_Name_kw (thn ((pe_var (pos := p1) (i := i) hN hv hd hcd).run pinsZ sZ σZ HZ (fun v H1 => v = .ref f ∧ H1 = HZ) IZ ⟨.ref f, hs, rfl, rfl⟩) fun u s1 ⟨v, H1, I1, r1, q1⟩ => ?_)
  obtain ⟨ev, eH⟩ := q1
  subst ev
  rw [eH] at I1
  obtain rfl : u = Value.ref f := r1
  have of1 := I1.base.keep f _ hf hfn hfr (fun z => nomatch (show f ∈ ([] : List Addr) from z))
  refine PySem.W.callWith_F0 ⟨_, _, _, _, of1⟩ ?_
  have un : Un (frs X.stack) [] H HZ s.heap s1.heap := I1.base
  obtain ⟨⟨oc, vs, t, hoc, hdc, hvc⟩, _, _⟩ := I1.hok c' _ hc
  have rc : codeAny (model X.prog X.w) (X.A.deeper (envOfC qg sg s.heap.objs.size g cdg)) (.call (.ref f) ⟨[], []⟩) (CR (L2.CX X.prog X.w) (envOfC qg sg s.heap.objs.size g cdg :: X.stack) X.prog X.w HZ s1 Q (WE W σZ)) s1 := by
    refine PySem.W.kla_callFunE hr.depth of1 rfl L.co L.gen rfl ⟨c', oc, vs, t, rfl, hoc, hdc, hvc⟩ ?_
    rw [hbind]
    refine wpAny_pure (wpAny_newFunctionEnv (fun y hy => (L.own y hy).2) (fun y hy => absurd hy (by simp)) (fun h₁ hns hsb => ⟨I1.nolimit.fresh _ hsb, ?_⟩) L.kind)
    show codeAny _ _ (.expr body (lamEnv X scope s1.heap.objs.size f c')) _ _
    have kp : ∀ b o, s1.heap.get? b = some o → h₁.get? b = some o := fun b o e => hsb.extBut b o (Nat.ne_of_lt (Heap.lt_size e)) (Heap.get?_push_of_some _ e)
    have J : Inv (lamCx X (X.A.deeper (envOfC qg sg s.heap.objs.size g cdg)) (envOfC qg sg s.heap.objs.size g cdg :: X.stack) s1 HZ (WE W σZ) scope f c') [] σ HZ { s1 with heap := h₁, toks := s1.toks + ([] : List (Str × Value)).length } :=
      lam_start2 I L I1.env0 hr.hd un hns kp
    refine PySem.W.kla_codeExpr (wpAny_mono ((hbody _ _ _ s1 HZ (hr.deeper _)).run [] _ _ HZ Q J ht) (fun v s' hq => ?_) fun e s' hq => hq)
    obtain ⟨w', H', J', rv, q⟩ := hq
    exact ⟨w', H', J'.os, J'.bare, J'.base, J'.hok, rv, q⟩
  have hx : PassesAt (L2.CX X.prog X.w) ((cxOf CXg X.prog X.w X.K X.mg X.base Ng qg sg g cdg X.A X.stack s H Eg).tr pn xe) σZ (WE W σZ) := passAt tk σZ
  refine wpAny_call (codeAny_mono rc fun r s' hq => ?_)
  cases r with
  | error e => exact hx pinsZ HZ s1 e s' I1 hq
  | ok fl =>
    cases fl with
    | ret u => exact I1.after hq
    | next => exact False.elim hq
    | brk => exact False.elim hq
    | cont => exact False.elim hq
/-- the def that calls what it got, and handles its errors with its own slots at hand -/
def GivesToS (X : Cx) (Ng : List Str) (x : Str) (sg : Scope) (g : Addr) (cdg : Value) (bg : List Stmt) (a : Str) (q : Str) (k : Nat) (TT : (XK → Hp → VK → Prop) → Hp → VK → Prop) : Prop :=
  ∀ (f c' : Addr) (s : Shared) (H : Hp) (Q : VK) (tl : XK → Hp → VK → Prop), Room (k + 1) (X.A.deeper (envOfC x sg s.heap.objs.size g cdg)) →
    (∀ (W : WX) (pn : List (Addr × Obj)) (xe : Value → Shared → Prop) (p1 p2 : Pos), Takes ((cxOf C8.CX0 X.prog X.w X.K X.mg X.base Ng x sg g cdg X.A X.stack s H C8.E0).tr pn xe) W →
      PE ((cxOf C8.CX0 X.prog X.w X.K X.mg X.base Ng x sg g cdg X.A X.stack s H C8.E0).tr pn xe) (.Call (.Name a p1) [] [] p2) (fun σZ HZ Q => σZ[0]? = some (some (.ref f)) ∧ HZ c' = some (CodeO c' q) ∧ tl (WE W σZ) HZ Q)) →
    H c' = some (CodeO c' q) → TT tl H Q →
    ∃ t, PSs (cxOf C8.CX0 X.prog X.w X.K X.mg X.base Ng x sg g cdg X.A X.stack s H C8.E0).nox bg t ∧ t { nx := fun _ H' => Q .non H', rt := Q } (L2.start Ng [.ref f]) H
theorem pe_lamcallS {T : List (Addr × Str)} {TT : (XK → Hp → VK → Prop) → Hp → VK → Prop} {x a : Str} {g c P : Addr} {k : Nat} {pg : Arguments} {bg : List Stmt} {sg : Scope} {dV kV doc pm cdv ct oc : Value} {an od : Option Addr} {osl : Array (Option Value)} {Ng : List Str}
    {params : Arguments} {body : Expr} {scope : Scope} {t : XK → TE} {p lpos pos : Pos} (hg : Gl X x) (hm : X.mg x = some (.ref g)) (hk : PySem.W.keepIn X.K (.ref g) = true)
    (lk : X.K.lookup g = some ⟨oc, od, .func (PySem.W.fnOf x x pg bg sg dV kV doc pm an cdv ct), osl⟩) (hcg : PySem.W.codeIn X.K cdv x = true) (hb : L2.Binds X.K (PySem.W.fnOf x x pg bg sg dV kV doc pm an cdv ct) [a] []) (Sg : FnScope Ng [a] sg) (hNg : Ng[0]? = some a) (hva : Vis sg a)
    (hG : GivesToS X Ng x sg g cdv bg a (X.env.qual ++ "<lambda>") k TT)
    (TB : TabB X.base X.mg c P) (hcode : X.env.code = .ref c) (hmT : (P, X.env.qual ++ "<lambda>") ∈ T) (hu : ∀ p ∈ T, p.1 = P → p.2 = X.env.qual ++ "<lambda>") (hr : Room (k + 2) X.A) (L : LamS X.env.scope scope) (hdef : defaultsOf params X.env = ([], []))
    (hbind : ∀ (q : Str) (cl : List (Str × Addr)) (pm cv ctv : Value), bindArgs (PySem.W.kla_fn "<lambda>" q params body scope cl pm cv ctv) ⟨[], []⟩ = pure [])
    (hbody : ∀ (A : Around) (outer : List Env) (s : Shared) (H : Hp) (E : XK) (f c' : Addr), Room k (A.deeper (lamEnv X scope s.heap.objs.size f c')) → PE (lamCx X A outer s H E scope f c') body (t E))
    (hdb : (x == ("__debug__" : Str)) = false := by decide) (hd : (a == ("__debug__" : Str)) = false := by decide) (hcd : (a == ("__classdict__" : Str)) = false := by decide) :
    PE X (.Call (.Name x p) [.Lambda params body scope lpos] [] pos) (tLam T TT t) := by
  refine ⟨fun pins s σ H Q I h => ?_⟩
  obtain ⟨hT, h⟩ := h
  refine wpAny_Call_Name_kw (ld_glob I hg hm ?_ hdb)
  refine PySem.W.callWith_K (h₀ := X.base) I.ok.mod.kin hk ?_ (by rfl) (by rfl)
  show wpAny _ _ (spliced ((false, eval (.Lambda params body scope lpos) X.env) :: backTo pos (starEach [] X.env))) _ _ s
  refine Calls.spliced_cons (lam_make2 I TB hcode hmT hu hT hdef (L.has I.ok) fun f c' pm' ctv H1 s' I1 eN T1 hf hfn hfr hco => ?_)
  refine Calls.spliced_nil ⟨I1.kIn, ?_⟩
  have rc : codeAny (model X.prog X.w) X.A (.call (.ref g) ⟨[.ref f], []⟩) (CR C8.CX0 X.stack X.prog X.w H1 s' Q C8.E0) s' := by
    refine run_ofS (N := Ng) (ps := [a]) (us := [.ref f]) (vs := [.ref f]) lk hcg Sg hr I1.env0 (hb s' [.ref f] I1.kIn rfl) (.cons rfl .nil) rfl fun hr' => ?_
    obtain ⟨t', ht', hq'⟩ := hG f c' s' H1 Q (fun E H' Q' => t E σ H' Q') hr' (fun W pn xe p1 p2 tk => pe_actS (i := 0) I1 L hf hfn hfr (hbind _ _ _ _ _) tk hr' (fun E A outer s H hr2 => hbody A outer s H E f c' hr2) hNg hva hd hcd) hco (h H1 eN T1)
    exact ⟨t', ht'.nox, hq'⟩
  refine wpAny_call (codeAny_mono rc fun r s2 hq => ?_)
  cases r with
  | error e => exact (show False from hq).elim
  | ok fl =>
    cases fl with
    | ret u => exact I1.after hq
    | next => exact False.elim hq
    | brk => exact False.elim hq
    | cont => exact False.elim hq
end
end Lm

namespace Lm
open PySem L2 LamX PySem.Spec PyProof.Rows
section
variable {X : Cx} {A : Around} {outer : List Env} {s : Shared} {H : Hp} {E : XK} {scope : Scope} {f c' : Addr} {k : Nat} {C g : Addr} {fd : FuncData} {ps : List Str} {sp : Sp} {m : Str}
/-- in a lambda's body: what a call raises is the lambda's -/
theorem lam_passes : Passes (L2.CX X.prog X.w) (lamCx X A outer s H E scope f c') E := passes_call (takes_of rfl rfl rfl rfl) fun _ _ _ _ h => h
theorem MetOkX.binL {op : Operator} (D : MetOkX X.prog X.w X.K X.mg X.base k C (PySem.dunder op.info.2) g fd ps sp) (hc : PySem.W.selfFirst X.K C = true) (hr : Room k (lamCx X A outer s H E scope f c').A) : OpR (lamCx X A outer s H E scope f c') (binaryOp op) (rBinOwn C sp E) :=
  op_binOwn (X := lamCx X A outer s H E scope f c') D.ok hc D.mt.at_ D.mt.fn D.bd hr lam_passes
theorem MetOkX.leL (D : MetOkX X.prog X.w X.K X.mg X.base k C "__le__" g fd ps sp) (hr : Room k (lamCx X A outer s H E scope f c').A) : OpR (lamCx X A outer s H E scope f c') (compareOp .LtE) (rBinOwn C sp E) :=
  op_cmpOwn (X := lamCx X A outer s H E scope f c') (fun _ _ => rfl) D.ok D.mt.at_ D.mt.fn D.bd hr lam_passes
theorem MetOkX.ltL (D : MetOkX X.prog X.w X.K X.mg X.base k C "__lt__" g fd ps sp) (hr : Room k (lamCx X A outer s H E scope f c').A) : OpR (lamCx X A outer s H E scope f c') (compareOp .Lt) (rBinOwn C sp E) :=
  op_cmpOwn (X := lamCx X A outer s H E scope f c') (fun _ _ => rfl) D.ok D.mt.at_ D.mt.fn D.bd hr lam_passes
end
/-- a def whose code object is known: what it makes (lambdas) is noted in that object's table -/
theorem okC {P : Program} {w : World} {K : PySem.W.Frag} {mg : Str → Option Value} {base : Heap} {x qual : Str} {st : Stmt} {f c : Addr} {fd : FuncData} {N ps : List Str} {k : Nat} {sp : Sp} (F : L2.Fun K x qual st f fd) (hc : fd.code = Value.ref c) (S : FnScope N ps (defScope st)) (len : ∀ vs H Q E, sp vs H Q E → vs.length = ps.length)
    (hbody : ∀ (A : Around) (outer : List Env) (s : Shared) (H : Hp) (vs : List V) (Q : VK) (E : XK), Room k (A.deeper (envOfC qual (defScope st) s.heap.objs.size f (.ref c))) → sp vs H Q E →
      ∃ t, PSs (cxOf CX0 P w K mg base N qual (defScope st) f (.ref c) A outer s H E).nox (defBody st) t ∧ t { nx := fun _ H' => Q .non H', rt := Q } (L2.start N vs) H) : FnOk P w K mg base CX0 (k + 1) f fd ps sp := by
  obtain ⟨oc, od, kV, doc, pm, an, cdv, ct, osl, rfl, lk, hcd⟩ := F.ex
  have e : cdv = .ref c := hc
  subst e
  refine fn_of lk hcd S len fun A outer s H vs Q E hr hsp => ?_
  obtain ⟨t, h, q⟩ := hbody A outer s H vs Q E hr hsp
  exact ⟨t, h.nox, q⟩
end Lm

namespace Lm
open PySem L2 PySem.Spec PyProof.Rows
/-! ### several except clauses, each with a name or without -/
abbrev Clause := Value × Option Nat × (Addr → Value → Option Addr → TS)
/-- behind a clause its name is gone -/
def offEnds : Option Nat → Ends → Ends
  | none, D => D
  | some i, D => ⟨fun τ G => D.nx (τ.set i none) G, D.rt, fun τ G => D.bk (τ.set i none) G, fun τ G => D.ct (τ.set i none) G⟩
/-- in it the name holds the error -/
def onSt : Option Nat → Addr → L2.St → L2.St
  | none, _, τ => τ
  | some i, a, τ => τ.set i (some (.ref a))
def wClauses (K : PySem.W.Frag) (Wo : WX) (D : Ends) : List Clause → WX
  | [] => Wo
  | (c, o, ts) :: r => fun cls d τ G => ∃ b, PySem.W.exmOne K cls c = some b ∧ (b = true → ∀ a, G a = none → ts a cls d (offEnds o D) (onSt o a τ) G) ∧ (b = false → wClauses K Wo D r cls d τ G)
/-- a clause's name, its slot -/
def NmOk (X : Cx) : Option Str → Option Nat → Prop
  | none, none => True
  | some n, some i => X.N[i]? = some n ∧ X.env.kindOf n = some .local
  | _, _ => False
inductive Clauses (X : Cx) : List ExceptHandler → List Clause → Prop
  | nil : Clauses X [] []
  | cons {x : Str} {n : Option Str} {o : Option Nat} {c : Value} {ts : Addr → Value → Option Addr → TS} {st : Stmt} {sts : List Stmt} {p1 p2 : Pos} {hs : List ExceptHandler} {l : List Clause} (hx : Names X x c) (hn : NmOk X n o)
      (hb : ∀ (a : Addr) (ob : Obj) (cls : Value) (d : Option Addr) (pn : List (Addr × Obj)), Zc cls d ob → (∃ vs, ob.data = .fields vs) → PSs (X.suite a ((a, ob) :: pn)) (st :: sts) (ts a cls d)) (r : Clauses X hs l) :
      Clauses X (.ExceptHandler (some (.Name x p1)) n (st :: sts) p2 :: hs) ((c, o, ts) :: l)
section
variable {X : Cx} {blk : List Stmt} {h1 : ExceptHandler} {hr : List ExceptHandler} {cl : List Clause} {p : Pos} {tb : WX → TS} {Wo : WX}
theorem ps_clauses (e1 : X.stack = X.env :: X.outer) (e2 : X.env.frame = some X.env.locals) (nd : X.N.Nodup) (tk : Takes X Wo)
    (hbl : ∀ (W : WX) (pn : List (Addr × Obj)) (xe : Value → Shared → Prop), Takes (X.tr pn xe) W → PassesOwn (model X.prog X.w) X.A X.env xe → PSs (X.tr pn xe) blk (tb W)) (hcl : Clauses X (h1 :: hr) cl) :
    PS X (.Try blk (h1 :: hr) [] [] p) (fun D τ G => tb (wClauses X.K Wo D cl) D τ G) := by
  refine ⟨fun pins s τ G D J wish => ?_⟩
  have wf := J.ok
  have efr : X.A.frames = some (X.env :: X.outer) := wf.frames.trans (congrArg some e1)
  have go := (hbl (wClauses X.K Wo D cl) (X.pn ++ pins) (fun e z => wpAny (model X.prog X.w) X.A (noteFrame e X.env) (fun _ z2 => wpAny (model X.prog X.w) X.A (setFlight e none) (fun _ z3 =>
    wpAny (model X.prog X.w) X.A (handleBy e X.env (h1 :: hr)) (SP X pins D) X.xe z3) X.xe z2) X.xe z) ?caught PassesOwn.looking).run [] s τ G D (J.toTry _) wish
  case caught =>
    intro u z ht
    obtain ⟨er, fr, z0, pz, τ1, G1, cls, d, rfl, Jt, notBare, upw, hsky, fresh, eos, eag, wsh⟩ := ht
    have Ji := Jt.ofTry wf
    show wpAny (model X.prog X.w) X.A (noteFrame (.ref er) X.env) _ _ _
    refine Sky.land Zc.steady efr e2 (e1 ▸ hsky) fun g3 land3 up3 => ?_
    have J3 : Inv X pins τ1 G1 { z with heap := g3 } := Ji.landed notBare land3.1 (upw.trans up3) eos eag
    obtain ⟨ob3, fs3, get3, zc3, dat3⟩ := land3.there
    have off : er ∉ frs (X.env :: X.outer) := fun hm => by
      obtain ⟨_, ob', get', nofs⟩ := land3.2.2.1.mem hm
      rw [get3] at get'
      cases get'
      exact nofs _ dat3
    have offL : er ≠ X.env.locals := fun eq => off (List.mem_filterMap.mpr ⟨X.env, List.mem_cons_self, eq ▸ e2⟩)
    have offF : er ∉ X.fs := fun hm => by
      obtain ⟨en, hen, q⟩ := List.mem_filterMap.mp hm
      exact off (List.mem_filterMap.mpr ⟨en, List.mem_cons_of_mem _ hen, q⟩)
    have Sx := J3.suite get3 dat3 fresh offL offF
    have each : ∀ {hs : List ExceptHandler} {l : List Clause}, Clauses X hs l → wClauses X.K Wo D l cls d τ1 G1 → wpAny (model X.prog X.w) X.A (handleBy (.ref er) X.env hs) (SP X pins D) X.xe { z with heap := g3 } := by
      intro hs l hl
      induction hl with
      | nil =>
        intro out
        refine wpAny_handleBy_nil ?_
        obtain ⟨_, _, _, obx, vsx, Tx, _, _, getx, _, datx, slot, _⟩ := id land3
        unfold PySem.passOn
        refine wpAny_bind (wpAny_field getx datx slot ?_)
        rw [if_neg (show ¬ ((Value.ref Tx == Value.none) = true) by simp)]
        have leave : wpAny (model X.prog X.w) X.A (setFlight (.ref er) X.env.frame) (fun _ z4 => wpAny (model X.prog X.w) X.A (throw (.ref er) : Sem Flow) (SP X pins D) X.xe z4) X.xe { z with heap := g3 } := by
          rw [e2]
          exact HandSPX.setFlight_upZ land3 fun g4 hot4 up4 => wpAny_throw (tk _ _ ⟨er, fr, z0, pins, τ1, G1, cls, d, rfl, Ji, notBare, (upw.trans up3).trans up4, Or.inr (Or.inr (by rw [e1]; exact hot4)), fresh, eos, eag, out⟩)
        first
          | exact wpAny_bind leave
          | exact wpAny_bind (wpAny_pure (wpAny_bind leave))
      | @cons x n o c ts st sts q1 q2 hs2 l2 hx hn hbd rest ih =>
        intro out
        obtain ⟨b, fits, yes, no⟩ := out
        refine wpAny_handleBy_cons (codeAny_handlers_test ?_) (fun q => by cases q)
        have look : PySem.W.Looks (model X.prog X.w) g3 (typeOf (.ref er)) cls := fun A Q E s k q => wpAny_typeOf_ref (k _ _ get3) (zc3.1.symm ▸ q)
        have match_ := PySem.W.exm_one (M := model X.prog X.w) J3.kIn look fits
        have named : ∀ {Q E : Value → Shared → Prop}, Q c { z with heap := g3 } → wpAny (model X.prog X.w) (X.A.mark (some (.ref er))) (eval (.Name x q1) X.env) Q E { z with heap := g3 } := fun {Q E} q => by
          obtain ⟨k1, k2, m1 | ⟨m1, m2, m3⟩⟩ := hx
          · exact ld_glob (X := X.suite er ((er, ob3) :: (X.pn ++ pins))) Sx k1 m1 q k2
          · exact ld_blt (X := X.suite er ((er, ob3) :: (X.pn ++ pins))) Sx k1 m1 m2 q m3 k2
        refine named (match_.here ?_)
        cases b with
        | false =>
          show wpAny _ X.A (handleBy (.ref er) X.env hs2) _ _ _
          exact ih (no rfl)
        | true =>
          match n, o, hn, yes rfl er fresh with
          | none, none, _, w1 =>
            refine codeAny_handlers_suite (HandSPX.lands_againZ land3 fun g4 land4 up4 => ?_)
            have J4 : Inv X pins τ1 G1 { z with heap := g4 } := Ji.landed notBare land4.1 ((upw.trans up3).trans up4) eos eag
            obtain ⟨ob4, fs4, get4, zc4, dat4⟩ := land4.there
            have S4 := J4.suite get4 dat4 fresh offL offF
            refine wpAny_mono ((hbd er ob4 cls d (X.pn ++ pins) zc4 ⟨_, dat4⟩).run [] _ _ G1 _ S4 w1) (fun f z6 fin => ?_) (fun _ _ bad => bad.elim)
            match f, fin with
            | .next, ⟨_, _, S6, q⟩ => exact ⟨_, _, S6.unsuite wf, q⟩
            | .brk, ⟨_, _, S6, q⟩ => exact ⟨_, _, S6.unsuite wf, q⟩
            | .cont, ⟨_, _, S6, q⟩ => exact ⟨_, _, S6.unsuite wf, q⟩
            | .ret u, ⟨_, _, _, S6, r6, q⟩ => exact ⟨_, _, _, S6.unsuite wf, r6, q⟩
          | some nm, some i, ⟨ni, nl⟩, w1 =>
            refine codeAny_handlers_suite_as (HandSPX.lands_againZ land3 fun g4 land4 up4 => ?_)
            have J4 : Inv X pins τ1 G1 { z with heap := g4 } := Ji.landed notBare land4.1 ((upw.trans up3).trans up4) eos eag
            obtain ⟨ob4, fs4, get4, zc4, dat4⟩ := land4.there
            have S4 := J4.suite get4 dat4 fresh offL offF
            refine store_ok (X := X.suite er ((er, ob4) :: (X.pn ++ pins))) (v := .ref er) S4 nd ni (.inl nl) rfl (fun z5 S5 => ?_) (.inr nl)
            refine wpAny_mono ((hbd er ob4 cls d (X.pn ++ pins) zc4 ⟨_, dat4⟩).run [] z5 _ G1 _ S5 w1) (fun f z6 fin => ?_) (fun _ _ bad => bad.elim)
            have drop : ∀ {τ6 : L2.St} {G6 : Hp} {Q : Shared → Prop}, Inv (X.suite er ((er, ob4) :: (X.pn ++ pins))) [] τ6 G6 z6 → (∀ z7, Inv X pins (τ6.set i none) G6 z7 → Q z7) →
                wpAny (model X.prog X.w) X.A (do bindName X.env nm .none; unbindBehindTheSuite X.env nm q2) (fun _ z7 => Q z7) X.xe z6 := fun S6 hq => gone_ok (S6.unsuite wf) nd ni nl hq
            match f, fin with
            | .next, ⟨_, _, S6, q⟩ => exact drop S6 fun _ J7 => ⟨_, _, J7, q⟩
            | .brk, ⟨_, _, S6, q⟩ => exact drop S6 fun _ J7 => ⟨_, _, J7, q⟩
            | .cont, ⟨_, _, S6, q⟩ => exact drop S6 fun _ J7 => ⟨_, _, J7, q⟩
            | .ret u, ⟨_, _, _, S6, r6, q⟩ => exact drop S6 fun _ J7 => ⟨_, _, _, J7, r6, q⟩
    exact each hcl wsh
  refine wpAny_Try_except (wpAny_mono go (fun f z fin => ?_) fun _ _ q => q)
  match f, fin with
  | .next, ⟨_, _, J1, q⟩ => exact wpAny_execs_nil ⟨_, _, J1.ofTry wf, q⟩
  | .brk, ⟨_, _, J1, q⟩ => exact ⟨_, _, J1.ofTry wf, q⟩
  | .cont, ⟨_, _, J1, q⟩ => exact ⟨_, _, J1.ofTry wf, q⟩
  | .ret u, ⟨_, _, _, J1, r1, q⟩ => exact ⟨_, _, _, J1.ofTry wf, r1, q⟩
end
end Lm

namespace Lm
open PySem L2 LamX PySem.Spec PyProof.Rows
theorem exm_at {K : PySem.W.Frag} {S C : Addr} {b : Bool} (h1 : PySem.W.subIn K (.ref C) (.type "BaseException") = some true) (h2 : PySem.W.isClsIn K C = true) (h3 : PySem.W.typeIn K (.ref C) = some (.type "type")) (h4 : PySem.W.subIn K (.ref S) (.ref C) = some b) :
    PySem.W.exmOne K (.ref S) (.ref C) = some b := by
  have e1 : (PySem.W.subIn K (.ref C) (.type "BaseException") == some true) = true := by rw [h1] <;> rfl
  have e2 : ((PySem.W.clsIn K C).isSome && PySem.W.typeIn K (.ref C) == some (.type "type")) = true := by
    have h2' : (PySem.W.clsIn K C).isSome = true := h2
    rw [h2', h3] <;> rfl
  show (if (PySem.W.subIn K (.ref C) (.type "BaseException") == some true) = true then (if ((PySem.W.clsIn K C).isSome && PySem.W.typeIn K (.ref C) == some (.type "type")) = true then PySem.W.subIn K (.ref S) (.ref C) else none) else none) = some b
  rw [if_pos e1, if_pos e2]
  exact h4
/-- an error with one field, as it is raised -/
def ErrAt (C : Addr) (fn : Str) (cls : Value) (d : Option Addr) (H : Hp) (v : V) : Prop := cls = .ref C ∧ ∃ dd fs, d = some dd ∧ H dd = some (.xd fs) ∧ fs.lookup fn = some v
/-- what is made of an error by a clause with a field, and by one without -/
def ClF (C : Addr) (fn tag : Str) (Q : VK) : XK := fun cls d H => ∃ v, ErrAt C fn cls d H v ∧ ∀ p, H p = none → Q (.ref p) (upd H p (.tup [.str tag, v]))
def ClO (C : Addr) (tag : Str) (Q : VK) : XK := fun cls d H => cls = .ref C ∧ ∀ p, H p = none → Q (.ref p) (upd H p (.tup [.str tag]))
def Cl2 (A B : VK → XK) : VK → XK := fun Q cls d H => A Q cls d H ∨ B Q cls d H
/-- found = ("odd",); try: found = (tag, ask()) / except .. -/
def TTtr (Cl : VK → XK) (post : V → Hp → VK → Prop) : (XK → Hp → VK → Prop) → Hp → VK → Prop := fun tl H Q => ∀ p0, H p0 = none → ∀ (E : XK) (R : VK), (∀ cls d H', Cl Q cls d H' → E cls d H') → (∀ v H', post v H' Q → R v H') → tl E (upd H p0 (.tup [.str "odd"])) R
/-- (tag, v) is told -/
def pTold (tag : Str) : V → Hp → VK → Prop := fun v H Q => ∀ p, H p = none → Q (.ref p) (upd H p (.tup [.str tag, v]))
section
variable {X : Cx} {k : Nat} {f C : Addr} {fd : FuncData} {ps : List Str} {sp : Sp} {E : XK} {x m : Str} {p pos apos : Pos} {e o : Expr} {es : List Expr} {ta : TE} {t : TA}
theorem pe_mXc {pl : Sem Bool} (D : MetOkX X.prog X.w X.K X.mg X.base k C m f fd ps sp) (hr : Room k X.A) (hx : Passes (L2.CX X.prog X.w) X E) (he : PE X o ta) (ha : PA X (e :: es) t)
    (hst : starEach (e :: es) X.env = (false, eval e X.env) :: starEach es X.env := by rfl) (hpl : (backTo pos (starEach es X.env)).any (·.1) = false := by rfl)
    (ht : eval (.Call (.Attribute o m apos) (e :: es) [] pos) X.env = (do
      let ov ← eval o X.env
      standAt apos.atName
      let (f, first) ← holding [ov] (getMethod ov m pl)
      callWith pos f first (backTo pos (starEach (e :: es) X.env)) (backToKw pos (keywordEach [] X.env))) := by rfl) :
    PE X (.Call (.Attribute o m apos) (e :: es) [] pos) (tMeth C m sp [] E ta t) := pe_meth (pl := pl) he D.cl D.mt D.ok hr D.bd .nil hx ha hst hpl ht
end
section
variable {X : Cx} {A : Around} {outer : List Env} {s : Shared} {H : Hp} {E : XK} {scope : Scope} {f c' : Addr} {k : Nat} {C g : Addr} {fd : FuncData} {ps : List Str} {sp : Sp} {m x : Str} {p pos apos : Pos} {e o : Expr} {es : List Expr} {ta : TE} {t : TA}
theorem pe_mL {pl : Sem Bool} (D : MetOkX X.prog X.w X.K X.mg X.base k C m g fd ps sp) (hr : Room k (lamCx X A outer s H E scope f c').A) (he : PE (lamCx X A outer s H E scope f c') o ta) (ha : PA (lamCx X A outer s H E scope f c') (e :: es) t)
    (hst : starEach (e :: es) (lamCx X A outer s H E scope f c').env = (false, eval e (lamCx X A outer s H E scope f c').env) :: starEach es (lamCx X A outer s H E scope f c').env := by rfl) (hpl : (backTo pos (starEach es (lamCx X A outer s H E scope f c').env)).any (·.1) = false := by rfl)
    (ht : eval (.Call (.Attribute o m apos) (e :: es) [] pos) (lamCx X A outer s H E scope f c').env = (do
      let ov ← eval o (lamCx X A outer s H E scope f c').env
      standAt apos.atName
      let (f1, first) ← holding [ov] (getMethod ov m pl)
      callWith pos f1 first (backTo pos (starEach (e :: es) (lamCx X A outer s H E scope f c').env)) (backToKw pos (keywordEach [] (lamCx X A outer s H E scope f c').env))) := by rfl) :
    PE (lamCx X A outer s H E scope f c') (.Call (.Attribute o m apos) (e :: es) [] pos) (tMeth C m sp [] E ta t) :=
  pe_meth (X := lamCx X A outer s H E scope f c') (pl := pl) (CX := L2.CX X.prog X.w) (E := E) he D.cl D.mt D.ok hr D.bd .nil (lam_passes (X := X) (A := A) (outer := outer) (s := s) (H := H) (E := E) (scope := scope) (f := f) (c' := c')) ha hst hpl ht
theorem pe_dL (D : DefOkX X.prog X.w X.K X.mg X.base k x g fd ps sp) (hr : Room k (lamCx X A outer s H E scope f c').A) (ha : PA (lamCx X A outer s H E scope f c') (e :: es) t) (hg : Gl (lamCx X A outer s H E scope f c') x) (hdb : (x == ("__debug__" : Str)) = false := by decide)
    (he : starEach (e :: es) (lamCx X A outer s H E scope f c').env = (false, eval e (lamCx X A outer s H E scope f c').env) :: starEach es (lamCx X A outer s H E scope f c').env := by rfl) (hpl : (backTo pos (starEach es (lamCx X A outer s H E scope f c').env)).any (·.1) = false := by rfl) :
    PE (lamCx X A outer s H E scope f c') (.Call (.Name x p) (e :: es) [] pos) (tCall sp [] E t) :=
  pe_call (X := lamCx X A outer s H E scope f c') (CX := L2.CX X.prog X.w) (E := E) D.ok hr hg D.mg D.kp D.bd .nil (lam_passes (X := X) (A := A) (outer := outer) (s := s) (H := H) (E := E) (scope := scope) (f := f) (c' := c')) ha hdb he hpl
end
/-- what is asked raises the first clause's error -/
theorem go_trA {Cl : VK → XK} {post : V → Hp → VK → Prop} {Tl : List (Addr × Str)} {C : Addr} {fn tag : Str} {x : V} {σ : L2.St} {H : Hp} {Q : VK} {t : XK → TE} (T : Tabs Tl H) (hC : ∀ Q cls d H, ClF C fn tag Q cls d H → Cl Q cls d H)
    (h : ∀ H1, ExtN H H1 → ∀ (E : XK) (R : VK), (∀ H' d, (∀ b o, H1 b = some o → H' b = some o) → H' d = none → E (.ref C) (some d) (upd H' d (.xd [(fn, x)]))) → t E σ H1 R)
    (k : ∀ p H1, ExtN H H1 → Tabs Tl H1 → (∀ o, H p = some o → ∃ ps, o = .tbl ps) → H1 p = some (.tup [.str tag, x]) → Q (.ref p) H1) : tLam Tl (TTtr Cl post) t σ H Q := by
  refine ⟨T, fun H1 e1 T1 p0 np0 E R hE _ => ?_⟩
  have s0 : ∀ b o, H1 b = some o → upd H1 p0 (.tup [.str "odd"]) b = some o := fun b o e => by rw [upd_ne (ne_of_none e np0)]; exact e
  refine h _ (e1.trans (.of s0)) E R fun H' d s nd => hE _ _ _ (hC _ _ _ _ ⟨x, ⟨rfl, d, _, rfl, upd_same, by simp [List.lookup]⟩, fun p np => ?_⟩)
  have s1 : ∀ b o, H1 b = some o → upd (upd H' d (.xd [(fn, x)])) p (.tup [.str tag, x]) b = some o := fun b o e => by
    have e2 := s _ _ (s0 b o e)
    have e3 : upd H' d (.xd [(fn, x)]) b = some o := by rw [upd_ne (ne_of_none e2 nd)]; exact e2
    rw [upd_ne (ne_of_none e3 np)]; exact e3
  refine k p _ (e1.trans (.of s1)) (T1.ext s1) (fun o ho => Classical.byContradiction fun hc => ?_) upd_same
  have h1 := e1 _ _ ho fun ps z => hc ⟨ps, z⟩
  have e2 := s _ _ (s0 _ _ h1)
  have e3 : upd H' d (.xd [(fn, x)]) p = some o := by rw [upd_ne (ne_of_none e2 nd)]; exact e2
  rw [np] at e3
  cases e3
theorem free_back' {H H1 H' : Hp} {p : Addr} (e1 : ExtN H H1) (s : ∀ b o, H1 b = some o → H' b = some o) (np : H' p = none) : ∀ o, H p = some o → ∃ ps, o = .tbl ps := fun o ho => Classical.byContradiction fun hc => by
  have h1 := s _ _ (e1 _ _ ho fun ps z => hc ⟨ps, z⟩)
  rw [np] at h1
  cases h1
/-- … an error without fields -/
theorem go_trO {Cl : VK → XK} {post : V → Hp → VK → Prop} {Tl : List (Addr × Str)} {C : Addr} {tag : Str} {σ : L2.St} {H : Hp} {Q : VK} {t : XK → TE} (T : Tabs Tl H) (hC : ∀ Q cls d H, ClO C tag Q cls d H → Cl Q cls d H)
    (h : ∀ H1, ExtN H H1 → ∀ (E : XK) (R : VK), (∀ H', (∀ b o, H1 b = some o → H' b = some o) → E (.ref C) none H') → t E σ H1 R)
    (k : ∀ p H1, ExtN H H1 → Tabs Tl H1 → (∀ o, H p = some o → ∃ ps, o = .tbl ps) → H1 p = some (.tup [.str tag]) → Q (.ref p) H1) : tLam Tl (TTtr Cl post) t σ H Q := by
  refine ⟨T, fun H1 e1 T1 p0 np0 E R hE _ => ?_⟩
  have s0 : ∀ b o, H1 b = some o → upd H1 p0 (.tup [.str "odd"]) b = some o := fun b o e => by rw [upd_ne (ne_of_none e np0)]; exact e
  refine h _ (e1.trans (.of s0)) E R fun H' s => hE _ _ _ (hC _ _ _ _ ⟨rfl, fun p np => ?_⟩)
  have s1 : ∀ b o, H1 b = some o → upd H' p (.tup [.str tag]) b = some o := fun b o e => by
    have e2 := s _ _ (s0 b o e)
    rw [upd_ne (ne_of_none e2 np)]; exact e2
  exact k p _ (e1.trans (.of s1)) (T1.ext s1) (free_back' e1 (fun b o e => s _ _ (s0 b o e)) np) upd_same
/-- … it tells something -/
theorem go_trV {Cl : VK → XK} {tag : Str} {Tl : List (Addr × Str)} {σ : L2.St} {H : Hp} {Q : VK} {t : XK → TE} (T : Tabs Tl H)
    (h : ∀ H1, ExtN H H1 → Tabs Tl H1 → ∀ (E : XK) (R : VK), (∀ v H', (∀ b o, H1 b = some o → H' b = some o) → (∀ p, H' p = none → Q (.ref p) (upd H' p (.tup [.str tag, v]))) → R v H') → t E σ H1 R) : tLam Tl (TTtr Cl (pTold tag)) t σ H Q := by
  refine ⟨T, fun H1 e1 T1 p0 np0 E R _ hR => ?_⟩
  have s0 : ∀ b o, H1 b = some o → upd H1 p0 (.tup [.str "odd"]) b = some o := fun b o e => by rw [upd_ne (ne_of_none e np0)]; exact e
  exact h _ (e1.trans (.of s0)) (T1.ext s0) E R fun v H' s q => hR v H' q
end Lm

namespace Lm
open PySem L2 LamX PySem.Spec PyProof.Rows
/-- a class whose __init__ may raise -/
structure ClsOkX (P : Program) (w : World) (K : PySem.W.Frag) (mg : Str → Option Value) (base : Heap) (k : Nat) (x : Str) (C f : Addr) (fd : FuncData) (ps : List Str) (sp : Sp) : Prop where
  ok : FnOk P w K mg base (L2.CX P w) k f fd ps sp
  bd : Binds K fd ps []
  mkr : Mk K C f
  cl : Cls K C
  mg : mg x = some (.ref C)
section
variable {X : Cx} {A : Around} {outer : List Env} {s : Shared} {H : Hp} {E : XK} {scope : Scope} {f c' : Addr} {k : Nat} {C g : Addr} {fd : FuncData} {ps : List Str} {sp : Sp} {x : Str} {p pos : Pos} {e : Expr} {es : List Expr} {t : TA}
theorem MetOkX.gtL (D : MetOkX X.prog X.w X.K X.mg X.base k C "__gt__" g fd ps sp) (hr : Room k (lamCx X A outer s H E scope f c').A) : OpR (lamCx X A outer s H E scope f c') (compareOp .Gt) (rBinOwn C sp E) :=
  op_cmpOwn (X := lamCx X A outer s H E scope f c') (fun _ _ => rfl) D.ok D.mt.at_ D.mt.fn D.bd hr (lam_passes (X := X) (A := A) (outer := outer) (s := s) (H := H) (E := E) (scope := scope) (f := f) (c' := c'))
theorem MetOkX.geL (D : MetOkX X.prog X.w X.K X.mg X.base k C "__ge__" g fd ps sp) (hr : Room k (lamCx X A outer s H E scope f c').A) : OpR (lamCx X A outer s H E scope f c') (compareOp .GtE) (rBinOwn C sp E) :=
  op_cmpOwn (X := lamCx X A outer s H E scope f c') (fun _ _ => rfl) D.ok D.mt.at_ D.mt.fn D.bd hr (lam_passes (X := X) (A := A) (outer := outer) (s := s) (H := H) (E := E) (scope := scope) (f := f) (c' := c'))
theorem pe_mkL (D : ClsOkX X.prog X.w X.K X.mg X.base k x C g fd ps sp) (hr : Room (k + 1) (lamCx X A outer s H E scope f c').A) (ha : PA (lamCx X A outer s H E scope f c') (e :: es) t) (hg : Gl (lamCx X A outer s H E scope f c') x := by rfl) (hdb : (x == ("__debug__" : Str)) = false := by decide)
    (he : starEach (e :: es) (lamCx X A outer s H E scope f c').env = (false, eval e (lamCx X A outer s H E scope f c').env) :: starEach es (lamCx X A outer s H E scope f c').env := by rfl) (hpl : (backTo pos (starEach es (lamCx X A outer s H E scope f c').env)).any (·.1) = false := by rfl) :
    PE (lamCx X A outer s H E scope f c') (.Call (.Name x p) (e :: es) [] pos) (tMake C sp [] E t) :=
  pe_make (X := lamCx X A outer s H E scope f c') (CX := L2.CX X.prog X.w) (E := E) D.mkr D.ok hr hg D.mg D.bd .nil (lam_passes (X := X) (A := A) (outer := outer) (s := s) (H := H) (E := E) (scope := scope) (f := f) (c' := c')) ha hdb he hpl
end
end Lm

/-! R18: f(k2 = b, k1 = a), a def by keywords alone. -/
namespace Lm
open PySem L2
def tCallK0 (sp : Sp) (m : Nat) (gV : List V → List V → List V) (E : XK) (tk : TA) : TE := fun σ H Q => tk σ H fun zs H2 => zs.length = m ∧ sp (gV [] zs) H2 Q E
theorem Fun.swap0 {K : PySem.W.Frag} {x qual : Str} {st : Stmt} {f : Addr} {fd : FuncData} {ps : List Str} {k1 k2 : Str} (F : Fun K x qual st f fd)
    (h : ∀ (kV doc pm : Value) (an : Option Addr) (cdv ct : Value) (b c : Value), bindArgs (PySem.W.fnOf x qual (defArgs st) (defBody st) (defScope st) .none kV doc pm an cdv ct) ⟨[], [(k2, c), (k1, b)]⟩ = pure (ps.zip [b, c])) : KBn K fd ps 0 [k2, k1] swapR swapR := by
  obtain ⟨oc, od, kV, doc, pm, an, cdv, ct, osl, rfl, lk, hcd⟩ := F.ex
  refine ⟨fun s us ws X l1 l2 => ?_, fun r1 r2 => vals_app r1 (vals_rev r2)⟩
  match us, ws, l1, l2 with
  | [], [c, b], _, _ => exact .of_eq (h kV doc pm an cdv ct b c)
section
variable {X : Cx} {k : Nat} {f : Addr} {fd : FuncData} {ps ks : List Str} {sp : Sp} {x : Str} {p pos : Pos} {kws : List Keyword} {tk : TA} {g : List Value → List Value → List Value} {gV : List V → List V → List V}
theorem pe_dK (D : DefOk X.prog X.w X.K X.mg X.base k x f fd ps sp) (hb : KBn X.K fd ps 0 ks g gV) (hr : Room k X.A) (hkw : PK X kws tk) (hg : Gl X x := by rfl) (hdb : (x == ("__debug__" : Str)) = false := by decide)
    (hall : (backToKw pos (keywordEach kws X.env)).all (·.1.isSome) = true := by rfl) (hks : (backToKw pos (keywordEach kws X.env)).filterMap (·.1) = ks := by rfl)
    (hpl : ((backTo pos (starEach [] X.env)).any (·.1) || (backToKw pos (keywordEach kws X.env)).any (·.1.isNone)) = false := by rfl) :
    PE X (.Call (.Name x p) [] kws pos) (tCallK0 sp ks.length gV E0 tk) := by
  refine ⟨fun pins s σ H Q I h => ?_⟩
  refine wpAny_Call_Name_kw (ld_glob I hg D.mg ?_ hdb)
  refine PySem.W.callWith_KW0 (h₀ := X.base) I.ok.mod.kin D.kp hall ?_ hpl
  refine thn (hkw.run pos pins s σ H _ I h) fun ws s2 ⟨zs, H2, I2, rz, l2, q2⟩ => ⟨I2.kIn, ?_⟩
  rw [hks]
  have r2 := hb.rel (vs := []) (us := []) .nil rz
  have hl : (g [] ws).length = ps.length := by rw [← r2.length]; exact D.ok.len _ _ _ _ q2
  refine wpAny_call (codeAny_mono (D.ok.run X.A X.stack s2 H2 ⟨[], ks.zip ws⟩ (g [] ws) (gV [] zs) Q E0 hr I2.env0 (hb.to s2 [] ws I2.kIn rfl (rz.length.symm.trans l2)) r2 q2) fun r s' hq => ?_)
  cases r with
  | error e => exact pass0 pins σ H2 s2 e s' I2 hq
  | ok fl =>
    cases fl with
    | ret u => exact I2.after hq
    | next => exact False.elim hq
    | brk => exact False.elim hq
    | cont => exact False.elim hq
end
end Lm

/-! R17: for i, (x, y) in enumerate(zip(a, b)), two lists. -/
namespace Lm
open PySem PySem.Spec PyProof.Rows L2 RZ
open Sem (wp)
/-- a zip as it stands between two turns, its last tuple handed out or not -/
abbrev ZipG (h : Heap) (z TI TO : Addr) (f0 : Value) (f : Bool) : Prop :=
  h.get? z = some { cls := .type "zip", dict := none, data := .fields #[f0, .bool f, .bool false, .ref TI, .ref TO], slots := #[] }
def Own0 (f0 : Value) : Prop := f0 = .none ∨ ∃ T : Addr, f0 = rawInt T
def ZipA (h : Heap) (z TI TO : Addr) : Prop := ∃ f0 f, ZipG h z TI TO f0 f ∧ Own0 f0
section
variable {prog : Program} {w : World} {A : Around} {E : Value → Shared → Prop} {s : Shared}
theorem alive_any {a : Addr} {Q : Option Obj → Shared → Prop} (h : Q (s.heap.get? a) s) : wpAny (model prog w) A (loadIfAlive a) Q E s := fun _ _ _ => h
theorem owned_any {z TI TO : Addr} {f0 : Value} {f : Bool} {Q : Bool → Shared → Prop} (hz : ZipG s.heap z TI TO f0 f) (h0 : Own0 f0)
    (ht : Q true s) (hf : ∀ h', ZipG h' z TI TO f0 true → Heap.SameBut z s.heap h' → Q false { s with heap := h' }) : wpAny (model prog w) A (Builtin.SmallTypes.ownedTupleIsFree (.ref z)) Q E s := by
  unfold Builtin.SmallTypes.ownedTupleIsFree
  refine wpAny_bind (wpAny_field hz rfl (x := f0) rfl ?_)
  rcases h0 with rfl | ⟨T, rfl⟩
  · exact wpAny_pure ht
  · show wpAny _ _ (loadIfAlive ((T : Int).toNat) >>= _) _ _ _
    rw [Int.toNat_natCast]
    refine wpAny_bind (alive_any ?_)
    cases s.heap.get? T with
    | none =>
      simp only [Option.isNone_none, if_true]
      exact wpAny_pure ht
    | some o =>
      simp only [Option.isNone_some, Bool.false_eq_true, if_false]
      refine wpAny_bind (wpAny_field hz rfl (x := .bool f) rfl ?_)
      cases f with
      | true =>
        rw [if_neg (show ¬ ((Value.bool true != Value.bool true) = true) from Bool.false_ne_true)]
        exact wpAny_pure (hf s.heap hz (Heap.SameBut.refl _ _))
      | false =>
        rw [if_pos (show (Value.bool false != Value.bool true) = true from rfl)]
        exact wpAny_bind (wpAny_setField_rec hz (by simp) fun h₁ hz₁ hs₁ => wpAny_pure (hf h₁ hz₁ hs₁))
theorem zipG_item {z TI TO i1 i2 l1 l2 : Addr} {k1 k2 : Nat} {xs ys : Array Value} {x y : Value} {Q : Value → Shared → Prop} (D : ZipApart z TI TO i1 i2 l1 l2)
    (hz : ZipA s.heap z TI TO) (hTI : IsPair s.heap TI (.ref i1) (.ref i2)) (hTO : ∃ a b, IsPair s.heap TO a b)
    (h1 : s.heap.IsListIter i1 l1 k1) (h2 : s.heap.IsListIter i2 l2 k2) (hl1 : s.heap.IsList l1 xs) (hl2 : s.heap.IsList l2 ys) (hx : xs[k1]? = some x) (hy : ys[k2]? = some y)
    (hQ : ∀ h', ZipA h' z TI TO → (∃ a b, IsPair h' TO a b) → h'.IsListIter i1 l1 (k1 + 1) → h'.IsListIter i2 l2 (k2 + 1) → IsPair h' s.heap.objs.size x y → h'.objs.size = s.heap.objs.size + 1 →
      (∀ c o, c ≠ z → c ≠ TO → c ≠ i1 → c ≠ i2 → s.heap.get? c = some o → h'.get? c = some o) → Q (.ref s.heap.objs.size) { s with heap := h' }) :
    wpAny (model prog w) A (Builtin.«zip.__next__» ⟨[.ref z], []⟩) (fun fin s' => ∃ v, fin = .done (.ret v) ∧ Q v s') E s := by
  obtain ⟨f0, f, hz, h0⟩ := hz
  obtain ⟨a, b, hTO⟩ := hTO
  show wpAny _ _ (field (.ref z) 2 >>= _) _ _ _
  refine wpAny_bind (wpAny_field hz rfl (x := .bool false) rfl ?_)
  show wpAny _ _ (field (.ref z) 3 >>= _) _ _ _
  refine wpAny_bind (wpAny_field hz rfl (x := .ref TI) rfl ?_)
  refine wpAny_bind (wpAny_seqItems hTI rfl ?_)
  show wpAny _ _ (Builtin.SmallTypes.ownedTupleIsFree (.ref z) >>= _) _ _ _
  refine wpAny_bind (owned_any hz h0 ?_ fun h₁ hz₁ hs₁ => ?_)
  · simp only [if_true]
    refine wpAny_bind (wpAny_rule ?_)
    refine wpAny_bind (wpAny_field hz rfl (x := .ref TO) rfl ?_)
    refine wpAny_bind (wpAny_setField_rec hz (by simp) fun h₁ hz₁ hs₁ => ?_)
    replace hz₁ : ZipG h₁ z TI TO .ellipsis f := hz₁
    refine wpAny_bind ?_
    simp only [List.zipIdx_cons, List.zipIdx_nil, List.forIn_cons, List.forIn_nil]
    refine wpAny_bind (wpAny_bind (wpAny_onRaise ?_))
    show wpAny _ _ (Builtin.SmallTypes.nextOf (.ref i1) >>= _) _ _ _
    refine wpAny_bind (wpAny_nextOf_list_item (h1.extBut hs₁.extBut D.i1z) (hl1.extBut hs₁.extBut D.l1z) hx fun h₂ h1₂ hs₂ => wpAny_pure ?_)
    have hTO₂ : IsPair h₂ TO a b := hs₂.extBut _ _ D.TOi1 (hs₁.extBut _ _ D.TOz hTO)
    refine wpAny_bind (wpAny_seqItems hTO₂ rfl ?_)
    refine wpAny_bind (wpAny_updateSeq_pair hTO₂ fun h₃ hTO₃ hs₃ => ?_)
    replace hTO₃ : IsPair h₃ TO x b := hTO₃
    refine wpAny_bind (wpAny_letGo (wpAny_pure ?_))
    refine wpAny_bind (wpAny_bind (wpAny_onRaise ?_))
    show wpAny _ _ (Builtin.SmallTypes.nextOf (.ref i2) >>= _) _ _ _
    refine wpAny_bind (wpAny_nextOf_list_item (((h2.extBut hs₁.extBut D.i2z).extBut hs₂.extBut D.i12.symm).extBut hs₃.extBut D.TOi2.symm)
      (((hl2.extBut hs₁.extBut D.l2z).extBut hs₂.extBut D.l2i1).extBut hs₃.extBut D.l2TO) hy fun h₄ h2₄ hs₄ => wpAny_pure ?_)
    have hTO₄ : IsPair h₄ TO x b := hs₄.extBut _ _ D.TOi2 hTO₃
    refine wpAny_bind (wpAny_seqItems hTO₄ rfl ?_)
    refine wpAny_bind (wpAny_updateSeq_pair hTO₄ fun h₅ hTO₅ hs₅ => ?_)
    replace hTO₅ : IsPair h₅ TO x y := hTO₅
    refine wpAny_bind (wpAny_letGo (wpAny_pure (wpAny_pure ?_)))
    refine wpAny_bind (wpAny_seqItems hTO₅ rfl ?_)
    refine wpAny_bind (wpAny_newTuple ?_)
    have hsz : h₅.objs.size = s.heap.objs.size := by rw [hs₅.1, hs₄.1, hs₃.1, hs₂.1, hs₁.1]
    have hz₅ : ZipG h₅ z TI TO .ellipsis f := hs₅.extBut _ _ D.TOz.symm (hs₄.extBut _ _ D.i2z.symm (hs₃.extBut _ _ D.TOz.symm (hs₂.extBut _ _ D.i1z.symm hz₁)))
    have hk₅ : ∀ c o, c ≠ z → c ≠ TO → c ≠ i1 → c ≠ i2 → s.heap.get? c = some o → h₅.get? c = some o := fun c o c1 c2 c3 c4 e =>
      hs₅.extBut _ _ c2 (hs₄.extBut _ _ c4 (hs₃.extBut _ _ c2 (hs₂.extBut _ _ c3 (hs₁.extBut _ _ c1 e))))
    have h1₅ : h₅.IsListIter i1 l1 (k1 + 1) := ((h1₂.extBut hs₃.extBut D.TOi1.symm).extBut hs₄.extBut D.i12).extBut hs₅.extBut D.TOi1.symm
    have h2₅ : h₅.IsListIter i2 l2 (k2 + 1) := h2₄.extBut hs₅.extBut D.TOi2.symm
    have hzlt : z < h₅.objs.size := Heap.lt_size hz₅
    show wpAny _ _ (Builtin.SmallTypes.ownedTupleHandOut (.ref z) (.ref h₅.objs.size) >>= _) _ _ _
    refine wpAny_bind ?_
    unfold Builtin.SmallTypes.ownedTupleHandOut
    have hz₆ : ZipG (h₅.push { cls := .type "tuple", data := .seq #[x, y] }) z TI TO .ellipsis f := Heap.get?_push_of_some _ hz₅
    refine wpAny_bind (wpAny_setField_rec hz₆ (by simp) fun h₇ hz₇ hs₇ => ?_)
    replace hz₇ : ZipG h₇ z TI TO (rawInt h₅.objs.size) f := hz₇
    refine wpAny_setField_rec hz₇ (by simp) fun h₈ hz₈ hs₈ => ?_
    replace hz₈ : ZipG h₈ z TI TO (rawInt h₅.objs.size) false := hz₈
    have up : ∀ c o, c ≠ z → h₅.get? c = some o → h₈.get? c = some o := fun c o c1 e => hs₈.extBut _ _ c1 (hs₇.extBut _ _ c1 (Heap.get?_push_of_some _ e))
    have hT₈ : IsPair h₈ h₅.objs.size x y := hs₈.extBut _ _ (Nat.ne_of_gt hzlt) (hs₇.extBut _ _ (Nat.ne_of_gt hzlt) (Heap.get?_push_size _ rfl))
    have hz8 : h₈.objs.size = h₅.objs.size + 1 := by rw [hs₈.1, hs₇.1, Heap.size_push]
    rw [hsz] at hz₈ hT₈ hz8
    refine wpAny_pure ⟨_, rfl, ?_⟩
    show Q (.ref h₅.objs.size) _
    rw [hsz]
    exact hQ h₈ ⟨_, _, hz₈, .inr ⟨_, rfl⟩⟩ ⟨_, _, up _ _ D.TOz hTO₅⟩ (h1₅.at fun o e => up _ o D.i1z e) (h2₅.at fun o e => up _ o D.i2z e) hT₈ hz8 fun c o c1 c2 c3 c4 e => up c o c1 (hk₅ c o c1 c2 c3 c4 e)
  · simp only [Bool.false_eq_true, if_false]
    refine wpAny_bind ?_
    rw [← Array.forIn_toList]
    simp only [List.forIn_cons, List.forIn_nil]
    refine wpAny_bind (wpAny_bind (wpAny_holding ?_))
    show wpAny _ _ (Builtin.SmallTypes.nextOf (.ref i1) >>= _) _ _ _
    refine wpAny_bind (wpAny_nextOf_list_item (s := { s with heap := h₁ }) (h1.extBut hs₁.extBut D.i1z) (hl1.extBut hs₁.extBut D.l1z) hx fun h₂ h1₂ hs₂ => wpAny_pure ?_)
    refine wpAny_pure ?_
    refine wpAny_bind (wpAny_bind (wpAny_holding ?_))
    show wpAny _ _ (Builtin.SmallTypes.nextOf (.ref i2) >>= _) _ _ _
    refine wpAny_bind (wpAny_nextOf_list_item (s := { s with heap := h₂ }) ((h2.extBut hs₁.extBut D.i2z).extBut hs₂.extBut D.i12.symm) ((hl2.extBut hs₁.extBut D.l2z).extBut hs₂.extBut D.l2i1) hy fun h₃ h2₃ hs₃ => wpAny_pure ?_)
    refine wpAny_pure (wpAny_pure ?_)
    show wpAny _ _ (newTuple [x, y] >>= _) _ _ _
    refine wpAny_bind (wpAny_newTuple ?_)
    have hsz : h₃.objs.size = s.heap.objs.size := by rw [hs₃.1, hs₂.1, hs₁.1]
    have hz₃ : ZipG h₃ z TI TO f0 true := hs₃.extBut _ _ D.i2z.symm (hs₂.extBut _ _ D.i1z.symm hz₁)
    have hk : ∀ c o, c ≠ z → c ≠ i1 → c ≠ i2 → s.heap.get? c = some o → h₃.get? c = some o := fun c o c1 c2 c3 e => hs₃.extBut _ _ c3 (hs₂.extBut _ _ c2 (hs₁.extBut _ _ c1 e))
    have h1₃ : h₃.IsListIter i1 l1 (k1 + 1) := h1₂.extBut hs₃.extBut D.i12
    refine wpAny_pure ⟨_, rfl, ?_⟩
    show Q (.ref h₃.objs.size) _
    have hp : IsPair (h₃.push { cls := .type "tuple", data := .seq #[x, y] }) h₃.objs.size x y := Heap.get?_push_size _ rfl
    have hz4 : (h₃.push { cls := .type "tuple", data := .seq #[x, y] }).objs.size = h₃.objs.size + 1 := Heap.size_push ..
    rw [hsz] at hp hz4 ⊢
    exact hQ _ ⟨_, _, Heap.get?_push_of_some _ hz₃, h0⟩ ⟨_, _, Heap.get?_push_of_some _ (hk _ _ D.TOz D.TOi1 D.TOi2 hTO)⟩ (h1₃.at fun o e => Heap.get?_push_of_some _ e) (h2₃.at fun o e => Heap.get?_push_of_some _ e) hp hz4
      fun c o c1 _ c2 c3 e => Heap.get?_push_of_some _ (hk c o c1 c2 c3 e)
theorem zipG_end {z TI TO i1 i2 l1 l2 : Addr} {k1 k2 : Nat} {xs ys : Array Value} {Q : Fin → Shared → Prop} (hh : A.handled = none) (D : ZipApart z TI TO i1 i2 l1 l2)
    (hz : ZipA s.heap z TI TO) (hTI : IsPair s.heap TI (.ref i1) (.ref i2)) (hTO : ∃ a b, IsPair s.heap TO a b)
    (h1 : s.heap.IsListIter i1 l1 k1) (h2 : s.heap.IsListIter i2 l2 k2) (hl1 : s.heap.IsList l1 xs) (hl2 : s.heap.IsList l2 ys) (hend : xs[k1]? = none ∨ ys[k2]? = none)
    (hE : ∀ h' e, (∀ c o, c ≠ z → c ≠ TO → c ≠ i1 → c ≠ i2 → s.heap.get? c = some o → h'.get? c = some o) → (∃ o, h'.get? e = some o ∧ o.cls = .type "StopIteration") → E (.ref e) { s with heap := h' }) :
    wpAny (model prog w) A (Builtin.«zip.__next__» ⟨[.ref z], []⟩) Q E s := by
  obtain ⟨f0, f, hz, h0⟩ := hz
  obtain ⟨a, b, hTO⟩ := hTO
  show wpAny _ _ (field (.ref z) 2 >>= _) _ _ _
  refine wpAny_bind (wpAny_field hz rfl (x := .bool false) rfl ?_)
  show wpAny _ _ (field (.ref z) 3 >>= _) _ _ _
  refine wpAny_bind (wpAny_field hz rfl (x := .ref TI) rfl ?_)
  refine wpAny_bind (wpAny_seqItems hTI rfl ?_)
  show wpAny _ _ (Builtin.SmallTypes.ownedTupleIsFree (.ref z) >>= _) _ _ _
  refine wpAny_bind (owned_any hz h0 ?_ fun h₁ hz₁ hs₁ => ?_)
  · simp only [if_true]
    refine wpAny_bind (wpAny_rule ?_)
    refine wpAny_bind (wpAny_field hz rfl (x := .ref TO) rfl ?_)
    refine wpAny_bind (wpAny_setField_rec hz (by simp) fun h₁ hz₁ hs₁ => ?_)
    replace hz₁ : ZipG h₁ z TI TO .ellipsis f := hz₁
    refine wpAny_bind ?_
    simp only [List.zipIdx_cons, List.zipIdx_nil, List.forIn_cons, List.forIn_nil]
    refine wpAny_bind (wpAny_bind (wpAny_onRaise ?_))
    show wpAny _ _ (Builtin.SmallTypes.nextOf (.ref i1) >>= _) _ _ _
    cases hx : xs[k1]? with
    | none =>
      refine wpAny_bind (wpAny_nextOf_list_end hh (h1.extBut hs₁.extBut D.i1z) (hl1.extBut hs₁.extBut D.l1z) hx fun h₂ e hs₂ he => ?_)
      obtain ⟨oe, hoe, hce⟩ := he
      have hz₂ : ZipG h₂ z TI TO .ellipsis f := hs₂ _ _ D.i1z.symm hz₁
      have hez : e ≠ z := fun x => by subst x; rw [hz₂] at hoe; cases hoe; simp at hce
      refine wpAny_setField_rec hz₂ (by simp) fun h₃ _ hs₃ => hE h₃ e (fun c o c1 _ c3 _ x => hs₃.extBut _ _ c1 (hs₂ _ _ c3 (hs₁.extBut _ _ c1 x))) ⟨oe, hs₃.extBut _ _ hez hoe, hce⟩
    | some x =>
      have hy : ys[k2]? = none := by rcases hend with h | h; rw [hx] at h; cases h; exact h
      refine wpAny_bind (wpAny_nextOf_list_item (h1.extBut hs₁.extBut D.i1z) (hl1.extBut hs₁.extBut D.l1z) hx fun h₂ h1₂ hs₂ => wpAny_pure ?_)
      have hTO₂ : IsPair h₂ TO a b := hs₂.extBut _ _ D.TOi1 (hs₁.extBut _ _ D.TOz hTO)
      refine wpAny_bind (wpAny_seqItems hTO₂ rfl ?_)
      refine wpAny_bind (wpAny_updateSeq_pair hTO₂ fun h₃ hTO₃ hs₃ => ?_)
      refine wpAny_bind (wpAny_letGo (wpAny_pure ?_))
      refine wpAny_bind (wpAny_bind (wpAny_onRaise ?_))
      show wpAny _ _ (Builtin.SmallTypes.nextOf (.ref i2) >>= _) _ _ _
      refine wpAny_bind (wpAny_nextOf_list_end hh (((h2.extBut hs₁.extBut D.i2z).extBut hs₂.extBut D.i12.symm).extBut hs₃.extBut D.TOi2.symm)
        (((hl2.extBut hs₁.extBut D.l2z).extBut hs₂.extBut D.l2i1).extBut hs₃.extBut D.l2TO) hy fun h₄ e hs₄ he => ?_)
      obtain ⟨oe, hoe, hce⟩ := he
      have hz₄ : ZipG h₄ z TI TO .ellipsis f := hs₄ _ _ D.i2z.symm (hs₃.extBut _ _ D.TOz.symm (hs₂.extBut _ _ D.i1z.symm hz₁))
      have hez : e ≠ z := fun x => by subst x; rw [hz₄] at hoe; cases hoe; simp at hce
      refine wpAny_setField_rec hz₄ (by simp) fun h₅ _ hs₅ => hE h₅ e (fun c o c1 c2 c3 c4 x => hs₅.extBut _ _ c1 (hs₄ _ _ c4 (hs₃.extBut _ _ c2 (hs₂.extBut _ _ c3 (hs₁.extBut _ _ c1 x))))) ⟨oe, hs₅.extBut _ _ hez hoe, hce⟩
  · simp only [Bool.false_eq_true, if_false]
    refine wpAny_bind ?_
    rw [← Array.forIn_toList]
    simp only [List.forIn_cons, List.forIn_nil]
    refine wpAny_bind (wpAny_bind (wpAny_holding ?_))
    show wpAny _ _ (Builtin.SmallTypes.nextOf (.ref i1) >>= _) _ _ _
    cases hx : xs[k1]? with
    | none =>
      refine wpAny_bind (wpAny_nextOf_list_end (s := { s with heap := h₁ }) hh (h1.extBut hs₁.extBut D.i1z) (hl1.extBut hs₁.extBut D.l1z) hx fun h₂ e hs₂ he => ?_)
      exact hE h₂ e (fun c o c1 _ c2 _ x => hs₂ _ _ c2 (hs₁.extBut _ _ c1 x)) he
    | some x =>
      have hy : ys[k2]? = none := by rcases hend with h | h; rw [hx] at h; cases h; exact h
      refine wpAny_bind (wpAny_nextOf_list_item (s := { s with heap := h₁ }) (h1.extBut hs₁.extBut D.i1z) (hl1.extBut hs₁.extBut D.l1z) hx fun h₂ h1₂ hs₂ => wpAny_pure ?_)
      refine wpAny_pure ?_
      refine wpAny_bind (wpAny_bind (wpAny_holding ?_))
      show wpAny _ _ (Builtin.SmallTypes.nextOf (.ref i2) >>= _) _ _ _
      refine wpAny_bind (wpAny_nextOf_list_end (s := { s with heap := h₂ }) hh ((h2.extBut hs₁.extBut D.i2z).extBut hs₂.extBut D.i12.symm) ((hl2.extBut hs₁.extBut D.l2z).extBut hs₂.extBut D.l2i1) hy fun h₃ e hs₃ he => ?_)
      exact hE h₃ e (fun c o c1 _ c2 c3 x => hs₃ _ _ c3 (hs₂.extBut _ _ c2 (hs₁.extBut _ _ c1 x))) he
/-- what stands apart in an enumerate of a zip -/
structure EZ (e z TI TO i1 i2 : Addr) : Prop where
  z : e ≠ z
  TI : e ≠ TI
  TO : e ≠ TO
  i1 : e ≠ i1
  i2 : e ≠ i2
theorem enumZip_item {e z TI TO i1 i2 l1 l2 : Addr} {i : Nat} {xs ys : Array Value} {x y old : Value} {Q : Option Value → Shared → Prop} (D : ZipApart z TI TO i1 i2 l1 l2) (N : EZ e z TI TO i1 i2)
    (he : IsEnum s.heap e z i old) (hz : ZipA s.heap z TI TO) (hTI : IsPair s.heap TI (.ref i1) (.ref i2)) (hTO : ∃ a b, IsPair s.heap TO a b)
    (h1 : s.heap.IsListIter i1 l1 i) (h2 : s.heap.IsListIter i2 l2 i) (hl1 : s.heap.IsList l1 xs) (hl2 : s.heap.IsList l2 ys) (hx : xs[i]? = some x) (hy : ys[i]? = some y)
    (hQ : ∀ hm h', IsPair hm s.heap.objs.size x y → hm.objs.size = s.heap.objs.size + 1 → (∀ c o, c ≠ z → c ≠ TO → c ≠ i1 → c ≠ i2 → s.heap.get? c = some o → hm.get? c = some o) →
      IsEnumOut h' e z ((i : Int) + 1) (.ref s.heap.objs.size) (s.heap.objs.size + 1) → ZipA h' z TI TO → IsPair h' TI (.ref i1) (.ref i2) → (∃ a b, IsPair h' TO a b) → h'.IsListIter i1 l1 (i + 1) → h'.IsListIter i2 l2 (i + 1) →
      h'.get? (s.heap.objs.size + 1) = some { cls := .type "tuple", data := .seq #[.int i s.toks, .ref s.heap.objs.size] } → h'.objs.size = s.heap.objs.size + 2 →
      (∀ c o, c ≠ e → hm.get? c = some o → h'.get? c = some o) → Q (some (.ref (s.heap.objs.size + 1))) { s with heap := h', toks := s.toks + 1 }) :
    wpAny (model prog w) A (pyNext (.ref e)) Q E s := by
  obtain ⟨hp, g, d, tk, os⟩ := s
  have hTe : Shared.TypeIs ⟨hp, g, d, tk, os⟩ (.ref e) "enumerate" := ⟨_, he, rfl⟩
  have hel : e < hp.objs.size := Heap.lt_size he
  unfold pyNext
  refine wpAny_bind (wpAny_attempt (wpAny_callSpecial?_slot (name := Str.ofString "__next__") hTe F.slot_enumerate_next
    (wpAny_call_entry F.slot_enumerate_next hTe F.entry_enumerate_next ?_ (F.args_enumerate_next_1 _))))
  show wpAny _ _ (field (.ref e) 2 >>= _) _ _ _
  refine wpAny_bind (wpAny_field he rfl (x := .ref z) rfl ?_)
  have hTz : Shared.TypeIs ⟨hp, g, d, tk, os⟩ (.ref z) "zip" := by obtain ⟨f0, f, q, _⟩ := hz; exact ⟨_, q, rfl⟩
  unfold Builtin.SmallTypes.nextOf
  refine wpAny_bind (wpAny_bind (wpAny_callSpecial?_slot (name := Str.ofString "__next__") hTz F.slot_zip_next
    (wpAny_call_entry F.slot_zip_next hTz F.entry_zip_next
      (zipG_item D hz hTI hTO h1 h2 hl1 hl2 hx hy fun hm z1 t1 j1 j2 p1 sz1 k1 => ?_) (F.args_zip_next_1 _))))
  refine wpAny_pure ?_
  replace k1 : ∀ c o, c ≠ z → c ≠ TO → c ≠ i1 → c ≠ i2 → hp.get? c = some o → hm.get? c = some o := k1
  replace p1 : IsPair hm hp.objs.size x y := p1
  replace sz1 : hm.objs.size = hp.objs.size + 1 := sz1
  have he₁ : IsEnum hm e z i old := k1 _ _ N.z N.TO N.i1 N.i2 he
  have hTI₁ : IsPair hm TI (.ref i1) (.ref i2) := k1 _ _ D.TIz D.TITO D.TIi1 D.TIi2 hTI
  show wpAny _ _ (field (.ref e) 3 >>= _) _ _ ⟨hm, g, d, tk, os⟩
  refine wpAny_bind (wpAny_field he₁ rfl (x := rawInt i) rfl ?_)
  show wpAny _ _ (field (.ref e) 4 >>= _) _ _ ⟨hm, g, d, tk, os⟩
  refine wpAny_bind (wpAny_field he₁ rfl (x := .none) rfl ?_)
  show wpAny _ _ (mkInt i >>= _) _ _ ⟨hm, g, d, tk, os⟩
  refine wpAny_bind (wpAny_mkInt ?_)
  show wpAny _ _ (setField (.ref e) 3 (rawInt ((i : Int) + 1)) >>= _) _ _ ⟨hm, g, d, tk + 1, os⟩
  refine wpAny_bind (wpAny_setField_rec he₁ (by simp) fun h₂ he₂ hs₂ => ?_)
  replace hs₂ : Heap.SameBut e hm h₂ := hs₂
  replace he₂ : IsEnum h₂ e z ((i : Int) + 1) old := he₂
  show wpAny _ _ (setField (.ref e) 4 .none >>= _) _ _ ⟨h₂, g, d, tk + 1, os⟩
  refine wpAny_bind (wpAny_setField_rec he₂ (by simp) fun h₃ he₃ hs₃ => ?_)
  replace hs₃ : Heap.SameBut e h₂ h₃ := hs₃
  replace he₃ : IsEnum h₃ e z ((i : Int) + 1) old := he₃
  show wpAny _ _ (newTuple [.int i tk, .ref hp.objs.size] >>= _) _ _ ⟨h₃, g, d, tk + 1, os⟩
  refine wpAny_bind (wpAny_newTuple ?_)
  have he₄ : IsEnum (h₃.push { cls := .type "tuple", data := .seq #[.int i tk, .ref hp.objs.size] }) e z ((i : Int) + 1) old := Heap.get?_push_of_some _ he₃
  generalize hh₄ : h₃.push { cls := .type "tuple", data := .seq #[.int i tk, .ref hp.objs.size] } = h₄ at he₄
  have hsz : h₃.objs.size = hp.objs.size + 1 := by rw [hs₃.1, hs₂.1, sz1]
  have ht₄ : h₄.get? (hp.objs.size + 1) = some { cls := .type "tuple", data := .seq #[.int i tk, .ref hp.objs.size] } := by rw [← hh₄, ← hsz]; exact Heap.get?_push_size _ rfl
  have hz₄ : h₄.objs.size = hp.objs.size + 2 := by rw [← hh₄, Heap.size_push, hsz]
  have hk₄ : ∀ b o, b ≠ e → hm.get? b = some o → h₄.get? b = some o := fun b o hbe hb => by
    rw [← hh₄]; exact Heap.get?_push_of_some _ (hs₃.extBut b o hbe (hs₂.extBut b o hbe hb))
  show wpAny _ _ (Builtin.SmallTypes.ownedTupleIsFree (.ref e) >>= _) _ _ ⟨h₄, g, d, tk + 1, os⟩
  rw [hsz]
  clear hh₄ he₃ hs₃ he₂ hs₂ he₁ hsz h₃ h₂
  refine wpAny_bind ?_
  unfold Builtin.SmallTypes.ownedTupleIsFree
  refine wpAny_bind (wpAny_field he₄ rfl (x := .none) rfl (wpAny_pure ?_))
  simp only [if_true]
  refine wpAny_bind (wpAny_rule ?_)
  refine wpAny_bind (wpAny_field he₄ rfl (x := old) rfl ?_)
  refine wpAny_bind (wpAny_setField_rec he₄ (by simp) fun h₅ he₅ hs₅ => ?_)
  replace hs₅ : Heap.SameBut e h₄ h₅ := hs₅
  replace he₅ : IsEnum h₅ e z ((i : Int) + 1) (.ref hp.objs.size) := he₅
  show wpAny _ _ (Builtin.SmallTypes.ownedTupleHandOut (.ref e) (.ref (hp.objs.size + 1)) >>= _) _ _ ⟨h₅, g, d, tk + 1, os⟩
  refine wpAny_bind ?_
  unfold Builtin.SmallTypes.ownedTupleHandOut
  refine wpAny_bind (wpAny_setField_rec he₅ (by simp) fun h₆ he₆ hs₆ => ?_)
  replace hs₆ : Heap.SameBut e h₅ h₆ := hs₆
  replace he₆ : IsEnumOut h₆ e z ((i : Int) + 1) (.ref hp.objs.size) (hp.objs.size + 1) := he₆
  refine wpAny_setField_rec he₆ (by simp) fun h₇ he₇ hs₇ => ?_
  replace hs₇ : Heap.SameBut e h₆ h₇ := hs₇
  replace he₇ : IsEnumOut h₇ e z ((i : Int) + 1) (.ref hp.objs.size) (hp.objs.size + 1) := he₇
  have up : ∀ b o, b ≠ e → h₄.get? b = some o → h₇.get? b = some o := fun b o hb q => hs₇.extBut _ _ hb (hs₆.extBut _ _ hb (hs₅.extBut _ _ hb q))
  have up2 : ∀ b o, b ≠ e → hm.get? b = some o → h₇.get? b = some o := fun b o hb q => up b o hb (hk₄ b o hb q)
  have hne : hp.objs.size + 1 ≠ e := Nat.ne_of_gt (Nat.lt_succ_of_lt hel)
  refine wpAny_bind (wpAny_letGo (wpAny_pure ⟨_, rfl, wpAny_pure (hQ hm h₇ p1 sz1 k1 he₇ ?_ (up2 _ _ N.TI.symm hTI₁) ?_ (j1.at fun o q => up2 _ o N.i1.symm q) (j2.at fun o q => up2 _ o N.i2.symm q) (up _ _ hne ht₄) ?_ up2)⟩))
  · obtain ⟨f0, f, q, q'⟩ := z1
    exact ⟨f0, f, up2 _ _ N.z.symm q, q'⟩
  · obtain ⟨a, b, q⟩ := t1
    exact ⟨a, b, up2 _ _ N.TO.symm q⟩
  · rw [hs₇.1, hs₆.1, hs₅.1, hz₄]
theorem enumZip_end {e z TI TO i1 i2 l1 l2 : Addr} {i : Nat} {xs ys : Array Value} {old : Value} {Q : Option Value → Shared → Prop} (hh : A.handled = none) (D : ZipApart z TI TO i1 i2 l1 l2)
    (he : IsEnum s.heap e z i old) (hz : ZipA s.heap z TI TO) (hTI : IsPair s.heap TI (.ref i1) (.ref i2)) (hTO : ∃ a b, IsPair s.heap TO a b)
    (h1 : s.heap.IsListIter i1 l1 i) (h2 : s.heap.IsListIter i2 l2 i) (hl1 : s.heap.IsList l1 xs) (hl2 : s.heap.IsList l2 ys) (hend : xs[i]? = none ∨ ys[i]? = none)
    (hQ : ∀ h', (∀ c o, c ≠ z → c ≠ TO → c ≠ i1 → c ≠ i2 → s.heap.get? c = some o → h'.get? c = some o) → Q none { s with heap := h' }) : wpAny (model prog w) A (pyNext (.ref e)) Q E s := by
  have hTe : s.TypeIs (.ref e) "enumerate" := ⟨_, he, rfl⟩
  have hTz : s.TypeIs (.ref z) "zip" := by obtain ⟨f0, f, q, _⟩ := hz; exact ⟨_, q, rfl⟩
  unfold pyNext
  refine wpAny_bind (wpAny_attempt (wpAny_callSpecial?_slot (name := Str.ofString "__next__") hTe F.slot_enumerate_next
    (wpAny_call_entry F.slot_enumerate_next hTe F.entry_enumerate_next ?_ (F.args_enumerate_next_1 _))))
  show wpAny _ _ (field (.ref e) 2 >>= _) _ _ _
  refine wpAny_bind (wpAny_field he rfl (x := .ref z) rfl ?_)
  unfold Builtin.SmallTypes.nextOf
  refine wpAny_bind (wpAny_bind (wpAny_callSpecial?_slot (name := Str.ofString "__next__") hTz F.slot_zip_next
    (wpAny_call_entry F.slot_zip_next hTz F.entry_zip_next (zipG_end hh D hz hTI hTO h1 h2 hl1 hl2 hend fun h' x hk hx' => ?_) (F.args_zip_next_1 _))))
  obtain ⟨o, ho, hc⟩ := hx'
  refine wpAny_bind (wpAny_isInstance (T := "StopIteration") (b := true) ⟨o, ho, hc⟩ isSubtype_stop ?_)
  exact wpAny_pure (hQ _ hk)
theorem enumG_letGo {elts : List Expr} {x1} {pos : Pos} {e z T : Addr} {i : Int} {x : Value} {Q : Unit → Shared → Prop} (he : IsEnumOut s.heap e z i x T)
    (hQ : ∀ h', IsEnum h' e z i x → Heap.SameBut e s.heap h' → Q () { s with heap := h' }) : wpAny (model prog w) A (letOwnedTupleGo (.Tuple elts x1 pos) (.ref e) (.ref T)) Q E s := wpAny_letOwnedTupleGo_enum he hQ
theorem call_enumerate_zip {z TI TO : Addr} {Q : Value → Shared → Prop} (hz : ZipG s.heap z TI TO .none false)
    (h : ∀ h', IsEnum h' s.heap.objs.size z 0 .none → h'.objs.size = s.heap.objs.size + 1 → (∀ b o, s.heap.get? b = some o → h'.get? b = some o) → Q (.ref s.heap.objs.size) { s with heap := h' }) :
    wpAny (model prog w) A (call (.type "enumerate") [.ref z]) Q E s := by
  have me : Meets (Builtin.«enumerate.__new__» ⟨[.type "enumerate", .ref z], []⟩) (fun _ R s => ZipG s.heap z TI TO .none false ∧
      R (.ok (.ret (.ref s.heap.objs.size))) { s with heap := s.heap.push { cls := .type "enumerate", data := .fields #[.none, .bool false, .ref z, rawInt 0, .none, .none] } }) :=
    .of_wp fun prog w A R s h => by
      obtain ⟨hp, g, d, tk, os⟩ := s
      obtain ⟨hz, h⟩ := h
      have hsub := sub_enumerate
      have hZ : IsZip (Shared.heap ⟨hp, g, d, tk, os⟩) z TI TO .none := hz
      wp_walk using AutoSeq1.wpAny_loadPart' hz
      refine wpAny_stack_any fun st => wpAny_pure ?_
      split
      · rename_i c _ _ _ _ _
        cases (c == Value.type "enumerate")
        · wp_walk using AutoSeq1.wpAny_loadPart' hz, wpAny_pyIter_zip hZ
          exact ⟨_, rfl, h⟩
        · wp_walk using AutoSeq1.wpAny_loadPart' hz, wpAny_pyIter_zip hZ
          exact ⟨_, rfl, h⟩
      · wp_walk using AutoSeq1.wpAny_loadPart' hz, wpAny_pyIter_zip hZ
        exact ⟨_, rfl, h⟩
  refine callType_new F.called_enumerate (by decide) (F.typeCall_enumerate_1 _) (F.newCall_enumerate_1 _) (fun obj => F.args_object_init_2 obj _) F.entry_enumerate_new me ⟨hz, ?_⟩
  have he : IsEnum (s.heap.push { cls := .type "enumerate", data := .fields #[.none, .bool false, .ref z, rawInt 0, .none, .none] }) s.heap.objs.size z 0 .none := Heap.get?_push_size _ rfl
  exact ⟨⟨_, he, rfl⟩, h _ he (Heap.size_push ..) fun b o x => Heap.get?_push_of_some _ x⟩
end
/-- the lists at a and b as they stand at each turn, the items in new pairs, the pairs in new pairs behind their number -/
def Itez (K : PySem.W.Frag) (a b : Addr) : It :=
  ⟨fun i H => ∃ (xs ys : List V) (x y : V), SqL K H a xs ∧ SqL K H b ys ∧ xs[i]? = some x ∧ ys[i]? = some y,
    fun i H v H' => ∃ P T x y, v = .ref T ∧ H P = none ∧ H T = none ∧ P ≠ T ∧ H' = upd (upd H P (.tup [x, y])) T (.tup [.int (i : Nat), .ref P]) ∧ (∀ xs, SqL K H a xs → xs[i]? = some x) ∧ ∀ ys, SqL K H b ys → ys[i]? = some y,
    fun i H => ∃ xs ys : List V, SqL K H a xs ∧ SqL K H b ys ∧ (xs.length ≤ i ∨ ys.length ≤ i)⟩
theorem turn_enumZip {P : Program} {w : World} {K : PySem.W.Frag} {elts : List Expr} {kk : Nat} {tpos : Pos} {a b e z TI TO i1 i2 : Addr} (D : ZipApart z TI TO i1 i2 a b) (N : EZ e z TI TO i1 i2) :
    Turn P w K (.Tuple elts kk tpos) (Itez K a b) [e, z, TI, TO, i1, i2] e (fun i h => (∃ old, IsEnum h e z ((i : Nat) : Int) old) ∧ ZipA h z TI TO ∧ IsPair h TI (.ref i1) (.ref i2) ∧ (∃ x y, IsPair h TO x y) ∧ h.IsListIter i1 a i ∧ h.IsListIter i2 b i) where
  mem := by simp
  obj := fun i h st c hc => by
    obtain ⟨⟨old, he⟩, ⟨f0, f, hz, _⟩, hTI, ⟨x, y, hTO⟩, ⟨o1, e1, _, d1⟩, ⟨o2, e2, _, d2⟩⟩ := st
    have e' : c = e ∨ c = z ∨ c = TI ∨ c = TO ∨ c = i1 ∨ c = i2 := by simpa using hc
    rcases e' with q | q | q | q | q | q
    · rw [q]; exact ⟨_, he, fun v q => nomatch q⟩
    · rw [q]; exact ⟨_, hz, fun v q => nomatch q⟩
    · rw [q]; exact ⟨_, hTI, fun v q => nomatch q⟩
    · rw [q]; exact ⟨_, hTO, fun v q => nomatch q⟩
    · rw [q]; exact ⟨o1, e1, fun v q => by rw [d1] at q; cases q⟩
    · rw [q]; exact ⟨o2, e2, fun v q => by rw [d2] at q; cases q⟩
  keep := fun i h h' st k => by
    obtain ⟨⟨old, he⟩, ⟨f0, f, hz, h0⟩, hTI, ⟨x, y, hTO⟩, h1, h2⟩ := st
    exact ⟨⟨old, k e (by simp) _ he⟩, ⟨f0, f, k z (by simp) _ hz, h0⟩, k TI (by simp) _ hTI, ⟨x, y, k TO (by simp) _ hTO⟩, h1.at fun o q => k i1 (by simp) o q, h2.at fun o q => k i2 (by simp) o q⟩
  item := by
    intro X hP hw hK hc i pins s σ H E I hf st hg
    subst hP hw hK
    obtain ⟨⟨old, he⟩, hz, hTI, hTO, h1, h2⟩ := st
    obtain ⟨xs, ys, x, y, hqx, hqy, hx, hy⟩ := hg
    obtain ⟨its, rv, p, _⟩ := I.list hqx
    obtain ⟨its2, rv2, p2, _⟩ := I.list hqy
    obtain ⟨u, hu, ru⟩ := rv.get hx
    obtain ⟨u2, hu2, ru2⟩ := rv2.get hy
    have lt : ∀ c, c ∈ [e, z, TI, TO, i1, i2] → c < s.heap.objs.size := fun c hcm => by
      have e' : c = e ∨ c = z ∨ c = TI ∨ c = TO ∨ c = i1 ∨ c = i2 := by simpa using hcm
      obtain ⟨f0, f, hz', _⟩ := hz
      obtain ⟨_, _, hTO'⟩ := hTO
      rcases e' with q | q | q | q | q | q
      · rw [q]; exact Heap.lt_size he
      · rw [q]; exact Heap.lt_size hz'
      · rw [q]; exact Heap.lt_size hTI
      · rw [q]; exact Heap.lt_size hTO'
      · rw [q]; obtain ⟨_, e1, _⟩ := h1; exact Heap.lt_size e1
      · rw [q]; obtain ⟨_, e2, _⟩ := h2; exact Heap.lt_size e2
    refine enumZip_item D N he hz hTI hTO h1 h2 p.isList p2.isList (x := u) (y := u2) (by simpa using hu) (by simpa using hu2) fun hm h' pm szm km he' hz' hTI' hTO' h1' h2' hT sz' k' => ?_
    refine ⟨_, rfl, wpAny_letOwnedTupleGo_enum (s := { s with heap := h', toks := s.toks + 1 }) he' fun h'' he'' sb => ?_⟩
    replace sb : Heap.SameBut e h' h'' := sb
    have new1 : ObjOk X.prog X.w (upd H s.heap.objs.size (.tup [x, y])) hm s.heap.objs.size (.tup [x, y]) :=
      ⟨by show 2 ≤ sizeLine; decide, [u, u2], .cons ru (.cons ru2 .nil), ⟨_, pm, rfl, _, rfl⟩⟩
    have I1 : Inv X pins σ (upd H s.heap.objs.size (.tup [x, y])) { s with heap := hm } :=
      I.turnedNew (t' := s.toks) (ch := [e, z, TI, TO, i1, i2]) (fun c o hb q => km c o (fun q' => hb (by simp [q'])) (fun q' => hb (by simp [q'])) (fun q' => hb (by simp [q'])) (fun q' => hb (by simp [q'])) q) hf (Nat.le_refl _) new1
    have hf1 : ∀ c ∈ [e, z, TI, TO, i1, i2], FpOk X pins (upd H s.heap.objs.size (.tup [x, y])) c := fun c hcm => ⟨by rw [upd_ne (Nat.ne_of_lt (lt c hcm))]; exact (hf c hcm).1, (hf c hcm).2⟩
    have hel : e < s.heap.objs.size := lt e (by simp)
    have hT2 : h''.get? (s.heap.objs.size + 1) = some { cls := .type "tuple", data := .seq #[.int i s.toks, .ref s.heap.objs.size] } := (sb.2 _ (Nat.ne_of_gt (Nat.lt_succ_of_lt hel))).trans hT
    have new2 : ObjOk X.prog X.w (upd (upd H s.heap.objs.size (.tup [x, y])) (s.heap.objs.size + 1) (.tup [.int (i : Nat), .ref s.heap.objs.size])) h'' (s.heap.objs.size + 1) (.tup [.int (i : Nat), .ref s.heap.objs.size]) :=
      ⟨by show 2 ≤ sizeLine; decide, [.int i s.toks, .ref s.heap.objs.size], .cons ⟨_, rfl⟩ (.cons rfl .nil), ⟨_, hT2, rfl, _, rfl⟩⟩
    have I2 : Inv X pins σ (upd (upd H s.heap.objs.size (.tup [x, y])) (s.heap.objs.size + 1) (.tup [.int (i : Nat), .ref s.heap.objs.size])) { s with heap := h'', toks := s.toks + 1 } :=
      I1.turnedNew (ch := [e, z, TI, TO, i1, i2]) (fun c o hb q => (sb.2 c (fun z => hb (by simp [z]))).trans (k' c o (fun z => hb (by simp [z])) q)) hf1 (Nat.le_of_eq szm) new2
    refine ⟨.ref (s.heap.objs.size + 1), _, I2, rfl, ⟨_, _, x, y, rfl, I.hok.fresh (Nat.le_refl _), I.hok.fresh (Nat.le_succ _), Nat.ne_of_lt (Nat.lt_succ_self _), rfl, fun l hl => by rw [I.list_inj hl hqx]; exact hx, fun l hl => by rw [I.list_inj hl hqy]; exact hy⟩,
      ⟨⟨.ref s.heap.objs.size, ?_⟩, ?_, (sb.2 _ N.TI.symm).trans hTI', ?_, h1'.at fun o q => (sb.2 _ N.i1.symm).trans q, h2'.at fun o q => (sb.2 _ N.i2.symm).trans q⟩, fun c hcm => ?_⟩
    · have e1 : ((i + 1 : Nat) : Int) = (i : Int) + 1 := by omega
      rw [e1]; exact he''
    · obtain ⟨f0, f, q, q'⟩ := hz'
      exact ⟨f0, f, (sb.2 _ N.z.symm).trans q, q'⟩
    · obtain ⟨a', b', q⟩ := hTO'
      exact ⟨a', b', (sb.2 _ N.TO.symm).trans q⟩
    · rw [upd_ne (Nat.ne_of_lt (Nat.lt_succ_of_lt (lt c hcm))), upd_ne (Nat.ne_of_lt (lt c hcm))]
      exact (hf c hcm).1
  done := by
    intro X hP hw hK hc i pins s σ H E I hf st hg
    subst hP hw hK
    obtain ⟨⟨old, he⟩, hz, hTI, hTO, h1, h2⟩ := st
    obtain ⟨xs, ys, hqx, hqy, hend⟩ := hg
    obtain ⟨its, rv, p, _⟩ := I.list hqx
    obtain ⟨its2, rv2, p2, _⟩ := I.list hqy
    have l1 := rv.length
    have l2 := rv2.length
    have he' : its.toArray[i]? = none ∨ its2.toArray[i]? = none := by
      rcases hend with q | q
      · exact .inl (by simp; omega)
      · exact .inr (by simp; omega)
    exact enumZip_end (I.ok.hd hc) D he hz hTI hTO h1 h2 p.isList p2.isList he' fun h' hk => ⟨rfl, I.turnedL (t' := s.toks) (ch := [e, z, TI, TO, i1, i2]) (fun c o hb q =>
      hk c o (fun q' => hb (by simp [q'])) (fun q' => hb (by simp [q'])) (fun q' => hb (by simp [q'])) (fun q' => hb (by simp [q'])) q) hf⟩
  self := fun A i s Q E st h => let ⟨⟨_, he⟩, _⟩ := st; wpAny_pyIter_enum he h
def iEnumZip (K : PySem.W.Frag) (ta : TA) : TI := fun σ H R => ta σ H fun vs H1 => ∃ a b xs ys, vs = [.ref a, .ref b] ∧ SqL K H1 a xs ∧ SqL K H1 b ys ∧ R (Itez K a b) H1
theorem pi_enumZip {X : Cx} {e e2 : Expr} {ta : TA} {p p2 q pos tpos : Pos} {elts : List Expr} {kk : Nat} (hg : Gl X "enumerate") (hm : X.mg "enumerate" = none) (hg2 : Gl X "zip") (hm2 : X.mg "zip" = none) (ha : PA X [e, e2] ta)
    (na : starEach [.Call (.Name "zip" p2) [e, e2] [] q] X.env = [(false, eval (.Call (.Name "zip" p2) [e, e2] [] q) X.env)] := by rfl)
    (hs : starEach [e, e2] X.env = (false, eval e X.env) :: starEach [e2] X.env := by rfl) (hpl : (backTo q (starEach [e2] X.env)).any (·.1) = false := by rfl) :
    PI X (.Tuple elts kk tpos) (.Call (.Name "enumerate" p) [.Call (.Name "zip" p2) [e, e2] [] q] [] pos) (iEnumZip X.K ta) := by
  refine ⟨fun pins s σ H R I h => ?_⟩
  refine Call_ (ld_blt I hg hm boot_enumerate (PyProof.Rows.callWith_type1 (PyProof.Rows.args_cons ?_ rfl) na rfl))
  refine Call_ (ld_blt I hg2 hm2 PyProof.Rows.boot_zip (PyProof.Rows.callWith_type1 (thn (ha.run q pins s σ H _ I h) fun us s1 ⟨vs, H1, I1, r1, q1⟩ => ?_) hs hpl))
  obtain ⟨a, b, xs, ys, ex, hqx, hqy, q1⟩ := q1
  subst ex
  cases r1 with
  | cons r rr =>
    cases rr with
    | cons r' rr =>
      cases rr
      cases r
      cases r'
      obtain ⟨its, rv, p1, _⟩ := I1.list hqx
      obtain ⟨its2, rv2, p2, _⟩ := I1.list hqy
      have la : a < s1.heap.objs.size := p1.lt
      have lb : b < s1.heap.objs.size := p2.lt
      refine call_zip_2 p1.isList p2.isList fun h' hz hTI hTO h1 h2 hsz hk => PyProof.Rows.args_nil ?_
      refine call_enumerate_zip (s := { s1 with heap := h' }) hz fun h'' he hsz2 hk2 => wpAny_pyIter_enum he ?_
      replace hk2 : ∀ b o, h'.get? b = some o → h''.get? b = some o := hk2
      have I2 : Inv X pins σ H1 { s1 with heap := h'' } := I1.kept (t' := s1.toks) fun b o z => hk2 b o (hk b o z)
      have hE : h'.objs.size = s1.heap.objs.size + 5 := hsz
      have N : EZ h'.objs.size (s1.heap.objs.size + 4) (s1.heap.objs.size + 2) (s1.heap.objs.size + 3) s1.heap.objs.size (s1.heap.objs.size + 1) := by
        rw [hE]
        constructor <;> (intro z; have z' : (_ : Nat) = _ := z; omega)
      refine ⟨h'.objs.size, [h'.objs.size, s1.heap.objs.size + 4, s1.heap.objs.size + 2, s1.heap.objs.size + 3, s1.heap.objs.size, s1.heap.objs.size + 1], _, _, H1, rfl, I2, turn_enumZip (PySem.W.ktu_apart s1.heap.objs.size a b la lb) N,
        ⟨⟨.none, he⟩, ⟨.none, false, hk2 _ _ hz, .inl rfl⟩, hk2 _ _ hTI, ⟨_, _, hk2 _ _ hTO⟩, h1.at fun o q => hk2 _ o q, h2.at fun o q => hk2 _ o q⟩, fun c hcm => ?_, q1⟩
      have e' : c = h'.objs.size ∨ c = s1.heap.objs.size + 4 ∨ c = s1.heap.objs.size + 2 ∨ c = s1.heap.objs.size + 3 ∨ c = s1.heap.objs.size ∨ c = s1.heap.objs.size + 1 := by simpa using hcm
      have hle : s1.heap.objs.size ≤ c := by
        rcases e' with z | z | z | z | z | z
        · rw [z, hE]; exact Nat.le_add_right _ _
        · rw [z]; exact Nat.le_add_right _ _
        · rw [z]; exact Nat.le_add_right _ _
        · rw [z]; exact Nat.le_add_right _ _
        · rw [z]; exact Nat.le_refl _
        · rw [z]; exact Nat.le_add_right _ _
      exact I1.fpOk hle (I1.hok.fresh hle)
end Lm

namespace Lm
open PySem L2 Evl RZ
def rIsN : R2 := fun x y H Q => y = .non ∧ Q (.bl (decide (x = .non))) H
def rNotN : R2 := fun x y H Q => y = .non ∧ Q (.bl (!decide (x = .non))) H
theorem op_isN1 {X : Cx} : OpR X (compareOp .Is) rIsN := op_isN
theorem op_notN1 {X : Cx} : OpR X (compareOp .IsNot) rNotN := op_notN
theorem pi_or {X : Cx} {tg e : Expr} {w w' : TI} (h : PI X tg e w) (h' : PI X tg e w') : PI X tg e (fun σ H R => w σ H R ∨ w' σ H R) := ⟨fun pins s σ H R I q => q.elim (h.run pins s σ H R I) (h'.run pins s σ H R I)⟩
theorem for_EZ {K : PySem.W.Frag} {a b : Addr} {xs ys : List V} {g : TG} {tb : TS} {D : Ends} {σ : L2.St} {H : Hp} (hl : xs.length = ys.length) (Pv : Nat → L2.St → Hp → Prop) (h0 : Pv 0 σ H) (hq : ∀ i σ H, Pv i σ H → SqL K H a xs ∧ SqL K H b ys)
    (hs : ∀ (i : Nat) (x y : V) (B T : Addr) (σ : L2.St) (H : Hp), xs[i]? = some x → ys[i]? = some y → Pv i σ H → H B = none → H T = none → B ≠ T → g (.ref T) σ (upd (upd H B (.tup [x, y])) T (.tup [.int (i : Nat), .ref B])) fun σ2 H2 => tb { D with nx := Pv (i + 1), ct := Pv (i + 1), bk := D.nx } σ2 H2) (hd : ∀ σ H, Pv xs.length σ H → D.nx σ H) :
    ∃ W : Nat → Nat → L2.St → Hp → Prop, (∃ m, W 0 m σ H) ∧ ∀ i m σ H, W i m σ H →
      ((Itez K a b).stop i H ∧ D.nx σ H) ∨ ((Itez K a b).go i H ∧ ∃ N : L2.St → Hp → Prop, (∀ σ' H', N σ' H' → ∃ m', m' < m ∧ W (i + 1) m' σ' H') ∧ ∀ v H', (Itez K a b).yld i H v H' → g v σ H' fun σ2 H2 => tb { D with nx := N, ct := N, bk := D.nx } σ2 H2) := by
  refine ⟨fun i m σ H => m = xs.length - i ∧ i ≤ xs.length ∧ Pv i σ H, ⟨xs.length, rfl, Nat.zero_le _, h0⟩, ?_⟩
  rintro i m σ H ⟨rfl, hi, p⟩
  obtain ⟨qx, qy⟩ := hq i σ H p
  by_cases hlt : i < xs.length
  · have hx : xs[i]? = some xs[i] := List.getElem?_eq_getElem hlt
    have hlt2 : i < ys.length := by omega
    have hy : ys[i]? = some ys[i] := List.getElem?_eq_getElem hlt2
    refine .inr ⟨⟨xs, ys, _, _, qx, qy, hx, hy⟩, Pv (i + 1), fun σ' H' p' => ⟨xs.length - (i + 1), by omega, rfl, hlt, p'⟩, fun v H' y => ?_⟩
    obtain ⟨B, T, x', y', rfl, hB, hT, hBT, rfl, f1, f2⟩ := y
    exact hs i x' y' B T σ H (f1 xs qx) (f2 ys qy) p hB hT hBT
  · have e : i = xs.length := by omega
    subst e
    exact .inl ⟨⟨xs, ys, qx, qy, Or.inl (Nat.le_refl _)⟩, hd σ H p⟩
/-- for i, (x, y) in enumerate(zip(a, b)): -/
theorem s_forEZ {K : PySem.W.Frag} {a b : Addr} {xs ys : List V} {ta : TA} {i j k : Nat} {tu : TS} {D : Ends} {σ : L2.St} {H : Hp} (h : EvA ta σ H [.ref a, .ref b]) (ha : H a = some (.lst xs)) (hb : H b = some (.lst ys)) (hl : xs.length = ys.length) (Pv : Nat → L2.St → Hp → Prop) (h0 : ∀ H1, Ex H H1 → Pv 0 σ H1)
    (hq : ∀ i σ' H', Pv i σ' H' → Ex H H') (hs : ∀ (n : Nat) (x y : V) (σ' : L2.St) (H' H2 : Hp), xs[n]? = some x → ys[n]? = some y → Pv n σ' H' → Ex H' H2 → tu { D with nx := Pv (n + 1), ct := Pv (n + 1), bk := D.nx } (((σ'.set i (some (.int (n : Nat)))).set j (some x)).set k (some y)) H2)
    (hd : ∀ σ' H', Pv xs.length σ' H' → D.nx σ' H') : tFor (iEnumZip K ta) (gTup K 2 (gCons (gName i) (gCons (gTup K 2 (gCons (gName j) (gCons (gName k) gNil))) gNil))) tu D σ H :=
  h H (Ex.refl H) _ fun H1 e => ⟨a, b, xs, ys, rfl, SqL.of (e _ _ ha), SqL.of (e _ _ hb), for_EZ hl Pv (h0 H1 e) (fun i σ' H' p => ⟨SqL.of (hq i σ' H' p _ _ ha), SqL.of (hq i σ' H' p _ _ hb)⟩) (fun n x y B T σ' H' hx hy p hB hT hBT => by
    have h1 : (upd (upd H' B (.tup [x, y])) T (.tup [.int (n : Nat), .ref B])) B = some (.tup [x, y]) := by rw [upd_ne hBT, upd_same]
    have e2 : Ex H' (upd (upd H' B (.tup [x, y])) T (.tup [.int (n : Nat), .ref B])) := Ex.trans (Ex.new hB) (Ex.new (by rw [upd_ne hBT.symm]; exact hT))
    exact ⟨T, _, rfl, SqT.of upd_same, rfl, _, _, rfl, _, _, rfl, ⟨B, _, rfl, SqT.of h1, rfl, _, _, rfl, _, _, rfl, rfl, ⟨rfl, hs n x y σ' H' _ hx hy p e2⟩⟩⟩) hd⟩
theorem q_forEZ {K : PySem.W.Frag} {a b : Addr} {xs ys : List V} {ta : TA} {i j k : Nat} {tu tz : TS} {D : Ends} {σ : L2.St} {H : Hp} (h : EvA ta σ H [.ref a, .ref b]) (ha : H a = some (.lst xs)) (hb : H b = some (.lst ys)) (hl : xs.length = ys.length) (Pv : Nat → L2.St → Hp → Prop) (h0 : ∀ H1, Ex H H1 → Pv 0 σ H1)
    (hq : ∀ i σ' H', Pv i σ' H' → Ex H H') (hs : ∀ (n : Nat) (x y : V) (σ' : L2.St) (H' H2 : Hp), xs[n]? = some x → ys[n]? = some y → Pv n σ' H' → Ex H' H2 → tu { D with nx := Pv (n + 1), ct := Pv (n + 1), bk := tz D } (((σ'.set i (some (.int (n : Nat)))).set j (some x)).set k (some y)) H2)
    (hd : ∀ σ' H', Pv xs.length σ' H' → tz D σ' H') : tSeq (tFor (iEnumZip K ta) (gTup K 2 (gCons (gName i) (gCons (gTup K 2 (gCons (gName j) (gCons (gName k) gNil))) gNil))) tu) tz D σ H := s_forEZ (D := { D with nx := tz D }) h ha hb hl Pv h0 hq hs hd
end Lm

/-! R20: zip of three lists; zip of a list and a tuple. -/
namespace Lm
open PySem PySem.Spec PyProof.Rows L2 Evl RZ
/-- the lists at a, b and c as they stand at each turn, the items in new triples -/
def Itz3 (K : PySem.W.Frag) (a b c : Addr) : It :=
  ⟨fun i H => ∃ (xs ys us : List V) (x y u : V), SqL K H a xs ∧ SqL K H b ys ∧ SqL K H c us ∧ xs[i]? = some x ∧ ys[i]? = some y ∧ us[i]? = some u,
    fun i H v H' => ∃ T x y u, v = .ref T ∧ H T = none ∧ H' = upd H T (.tup [x, y, u]) ∧ (∀ xs, SqL K H a xs → xs[i]? = some x) ∧ (∀ ys, SqL K H b ys → ys[i]? = some y) ∧ ∀ us, SqL K H c us → us[i]? = some u,
    fun i H => ∃ xs ys us : List V, SqL K H a xs ∧ SqL K H b ys ∧ SqL K H c us ∧ i ≤ xs.length ∧ i ≤ ys.length ∧ i ≤ us.length ∧ (i = xs.length ∨ i = ys.length ∨ i = us.length)⟩
theorem turn_zip3 {P : Program} {w : World} {K : PySem.W.Frag} {elts : List Expr} {kk : Nat} {tpos : Pos} {a b c z TI TO i1 i2 i3 : Addr} (S : ZipSep3 z TI TO i1 i2 i3 [i1, a] [i2, b] [i3, c]) (n1 : a ≠ i1) (n2 : b ≠ i2) (n3 : c ≠ i3) :
    Turn P w K (.Tuple elts kk tpos) (Itz3 K a b c) [z, TI, TO, i1, i2, i3] z (fun i h => IsZip h z TI TO .none ∧ IsTupOf3 h TI (.ref i1) (.ref i2) (.ref i3) ∧ (∃ x y u, IsTupOf3 h TO x y u) ∧ h.IsListIter i1 a i ∧ h.IsListIter i2 b i ∧ h.IsListIter i3 c i) where
  mem := by simp
  obj := fun i h st d hd => by
    obtain ⟨hz, hTI, ⟨x, y, u, hTO⟩, ⟨o1, e1, _, d1⟩, ⟨o2, e2, _, d2⟩, ⟨o3, e3, _, d3⟩⟩ := st
    have e' : d = z ∨ d = TI ∨ d = TO ∨ d = i1 ∨ d = i2 ∨ d = i3 := by simpa using hd
    rcases e' with q | q | q | q | q | q
    · rw [q]; exact ⟨_, hz, fun v q => nomatch q⟩
    · rw [q]; exact ⟨_, hTI, fun v q => nomatch q⟩
    · rw [q]; exact ⟨_, hTO, fun v q => nomatch q⟩
    · rw [q]; exact ⟨o1, e1, fun v q => by rw [d1] at q; cases q⟩
    · rw [q]; exact ⟨o2, e2, fun v q => by rw [d2] at q; cases q⟩
    · rw [q]; exact ⟨o3, e3, fun v q => by rw [d3] at q; cases q⟩
  keep := fun i h h' st k => by
    obtain ⟨hz, hTI, ⟨x, y, u, hTO⟩, h1, h2, h3⟩ := st
    exact ⟨k z (by simp) _ hz, k TI (by simp) _ hTI, ⟨x, y, u, k TO (by simp) _ hTO⟩, h1.at fun o q => k i1 (by simp) o q, h2.at fun o q => k i2 (by simp) o q, h3.at fun o q => k i3 (by simp) o q⟩
  item := by
    intro X hP hw hK hc i pins s σ H E I hf st hg
    subst hP hw hK
    obtain ⟨hz, hTI, ⟨x0, y0, u0, hTO⟩, h1, h2, h3⟩ := st
    obtain ⟨xs, ys, us, x, y, u, hqx, hqy, hqu, hx, hy, hu⟩ := hg
    obtain ⟨its, rv, p, _⟩ := I.list hqx
    obtain ⟨its2, rv2, p2, _⟩ := I.list hqy
    obtain ⟨its3, rv3, p3, _⟩ := I.list hqu
    obtain ⟨v1, hv1, ru1⟩ := rv.get hx
    obtain ⟨v2, hv2, ru2⟩ := rv2.get hy
    obtain ⟨v3, hv3, ru3⟩ := rv3.get hu
    have hzl : z < s.heap.objs.size := Heap.lt_size hz
    have hh : X.A.in1.handled = none := I.ok.hd hc
    have b1 : i < its.toArray.size := by simpa using (List.getElem?_eq_some_iff.mp hv1).1
    have b2 : i < its2.toArray.size := by simpa using (List.getElem?_eq_some_iff.mp hv2).1
    have b3 : i < its3.toArray.size := by simpa using (List.getElem?_eq_some_iff.mp hv3).1
    refine wpAny_pyNext_zipD3_item S (Draws.list hh i1 a n1 its.toArray) (Draws.list hh i2 b n2 its2.toArray) (Draws.list hh i3 c n3 its3.toArray) hz hTI hTO ⟨h1, p.isList⟩ ⟨h2, p2.isList⟩ ⟨h3, p3.isList⟩ b1 b2 b3 fun y1 y2 y3 h' tk q1 q2 q3 z' TO' h1' h2' h3' hT hsz hk => ?_
    have e1 : y1 = v1 := by
      have : its[i]? = some y1 := by simpa using q1
      rw [hv1] at this; exact (Option.some.inj this).symm
    have e2 : y2 = v2 := by
      have : its2[i]? = some y2 := by simpa using q2
      rw [hv2] at this; exact (Option.some.inj this).symm
    have e3 : y3 = v3 := by
      have : its3[i]? = some y3 := by simpa using q3
      rw [hv3] at this; exact (Option.some.inj this).symm
    subst e1 e2 e3
    refine ⟨_, rfl, wpAny_letOwnedTupleGo_zip (s := { s with heap := h', toks := tk }) z' fun h'' z'' sb => ?_⟩
    replace sb : Heap.SameBut z h' h'' := sb
    have hT2 : h''.get? s.heap.objs.size = some { cls := .type "tuple", data := .seq #[y1, y2, y3] } := (sb.2 _ (Nat.ne_of_gt hzl)).trans hT
    have new : ObjOk X.prog X.w (upd H s.heap.objs.size (.tup [x, y, u])) h'' s.heap.objs.size (.tup [x, y, u]) :=
      ⟨by show 3 ≤ sizeLine; decide, [y1, y2, y3], .cons ru1 (.cons ru2 (.cons ru3 .nil)), ⟨_, hT2, rfl, _, rfl⟩⟩
    have I1 : Inv X pins σ (upd H s.heap.objs.size (.tup [x, y, u])) { s with heap := h'', toks := tk } :=
      I.turnedNew (ch := [z, TI, TO, i1, i2, i3]) (fun d o hb q => (sb.2 d (fun q' => hb (by simp [q']))).trans (hk d o (fun q' => hb (by simp [q'])) (fun q' => hb (by simp [q'])) (fun q' => hb (by simp [q'])) (fun q' => hb (by simp [q'])) (fun q' => hb (by simp [q'])) q)) hf (Nat.le_refl _) new
    refine ⟨.ref s.heap.objs.size, _, I1, rfl, ⟨_, x, y, u, rfl, I.hok.fresh (Nat.le_refl _), rfl, fun l hl => by rw [I.list_inj hl hqx]; exact hx, fun l hl => by rw [I.list_inj hl hqy]; exact hy, fun l hl => by rw [I.list_inj hl hqu]; exact hu⟩,
      ⟨z'', ?_, ⟨y1, y2, y3, ?_⟩, ?_, ?_, ?_⟩, fun d hdm => ?_⟩
    · exact (sb.2 _ S.TIz).trans (hk _ _ S.TIz S.TITO S.TIi1 S.TIi2 S.TIi3 hTI)
    · exact (sb.2 _ S.TOz).trans TO'
    · exact h1'.1.at fun o q => (sb.2 _ S.zi1.symm).trans q
    · exact h2'.1.at fun o q => (sb.2 _ S.zi2.symm).trans q
    · exact h3'.1.at fun o q => (sb.2 _ S.zi3.symm).trans q
    · have hlt : d < s.heap.objs.size := by
        have e' : d = z ∨ d = TI ∨ d = TO ∨ d = i1 ∨ d = i2 ∨ d = i3 := by simpa using hdm
        rcases e' with q | q | q | q | q | q
        · rw [q]; exact hzl
        · rw [q]; exact Heap.lt_size hTI
        · rw [q]; exact Heap.lt_size hTO
        · rw [q]; obtain ⟨_, e1, _⟩ := h1; exact Heap.lt_size e1
        · rw [q]; obtain ⟨_, e2, _⟩ := h2; exact Heap.lt_size e2
        · rw [q]; obtain ⟨_, e3, _⟩ := h3; exact Heap.lt_size e3
      rw [upd_ne (Nat.ne_of_lt hlt)]
      exact (hf d hdm).1
  done := by
    intro X hP hw hK hc i pins s σ H E I hf st hg
    subst hP hw hK
    obtain ⟨hz, hTI, ⟨x0, y0, u0, hTO⟩, h1, h2, h3⟩ := st
    obtain ⟨xs, ys, us, hqx, hqy, hqu, l1, l2, l3, hend⟩ := hg
    obtain ⟨its, rv, p, _⟩ := I.list hqx
    obtain ⟨its2, rv2, p2, _⟩ := I.list hqy
    obtain ⟨its3, rv3, p3, _⟩ := I.list hqu
    have m1 : its.toArray.size = xs.length := by simpa using rv.length.symm
    have m2 : its2.toArray.size = ys.length := by simpa using rv2.length.symm
    have m3 : its3.toArray.size = us.length := by simpa using rv3.length.symm
    have hh : X.A.in1.handled = none := I.ok.hd hc
    exact wpAny_pyNext_zipD3_end S (Draws.list hh i1 a n1 its.toArray) (Draws.list hh i2 b n2 its2.toArray) (Draws.list hh i3 c n3 its3.toArray) hz hTI hTO ⟨h1, p.isList⟩ ⟨h2, p2.isList⟩ ⟨h3, p3.isList⟩ (by omega) (by omega) (by omega) (by omega)
      fun h' tk hk => ⟨rfl, I.turnedL (t' := tk) (ch := [z, TI, TO, i1, i2, i3]) (fun d o hb q => hk d o (fun q' => hb (by simp [q'])) (fun q' => hb (by simp [q'])) (fun q' => hb (by simp [q'])) (fun q' => hb (by simp [q'])) (fun q' => hb (by simp [q'])) q) hf⟩
  self := fun A i s Q E st h => wpAny_pyIter_zip st.1 h
def iZip3 (K : PySem.W.Frag) (ta : TA) : TI := fun σ H R => ta σ H fun vs H1 => ∃ a b c xs ys us, vs = [.ref a, .ref b, .ref c] ∧ SqL K H1 a xs ∧ SqL K H1 b ys ∧ SqL K H1 c us ∧ R (Itz3 K a b c) H1
theorem pi_zip3 {X : Cx} {e e2 e3 : Expr} {ta : TA} {p pos tpos : Pos} {elts : List Expr} {kk : Nat} (hg : Gl X "zip") (hm : X.mg "zip" = none) (ha : PA X [e, e2, e3] ta)
    (hs : starEach [e, e2, e3] X.env = (false, eval e X.env) :: starEach [e2, e3] X.env := by rfl) (hpl : (backTo pos (starEach [e2, e3] X.env)).any (·.1) = false := by rfl) :
    PI X (.Tuple elts kk tpos) (.Call (.Name "zip" p) [e, e2, e3] [] pos) (iZip3 X.K ta) := by
  refine ⟨fun pins s σ H R I h => ?_⟩
  refine Call_ (ld_blt I hg hm PyProof.Rows.boot_zip (PyProof.Rows.callWith_type1 (thn (ha.run pos pins s σ H _ I h) fun us s1 ⟨vs, H1, I1, r1, q1⟩ => ?_) hs hpl))
  obtain ⟨a, b, c, xs, ys, zs, ex, hqx, hqy, hqz, q⟩ := q1
  subst ex
  cases r1 with
  | cons r rr =>
    cases rr with
    | cons r' rr =>
      cases rr with
      | cons r'' rr =>
        cases rr
        cases r
        cases r'
        cases r''
        obtain ⟨its, rv, p1, _⟩ := I1.list hqx
        obtain ⟨its2, rv2, p2, _⟩ := I1.list hqy
        obtain ⟨its3, rv3, p3, _⟩ := I1.list hqz
        have la : a < s1.heap.objs.size := p1.lt
        have lb : b < s1.heap.objs.size := p2.lt
        have lc : c < s1.heap.objs.size := p3.lt
        refine zip_begins3 (begins_list a its.toArray) (begins_list b its2.toArray) (begins_list c its3.toArray) p1.isList p2.isList p3.isList fun h' hz hTI hTO h1 h2 h3 hsz hk => wpAny_pyIter_zip hz ?_
        have I2 : Inv X pins σ H1 { s1 with heap := h' } := I1.kept (t' := s1.toks) hk
        have one : ∀ (d N : Addr), d < N → ∀ x ∈ [d], x < N := fun d N hd x hx => by rw [List.mem_singleton.mp hx]; exact hd
        refine ⟨s1.heap.objs.size + 5, [s1.heap.objs.size + 5, s1.heap.objs.size + 3, s1.heap.objs.size + 4, s1.heap.objs.size, s1.heap.objs.size + 1, s1.heap.objs.size + 2], _, _, H1, rfl, I2,
          turn_zip3 (zip_sep3 (fp1 := [a]) (fp2 := [b]) (fp3 := [c]) (one _ _ la) (one _ _ lb) (one _ _ lc)) (Nat.ne_of_lt la) (Nat.ne_of_lt (Nat.lt_succ_of_lt lb)) (Nat.ne_of_lt (Nat.lt_succ_of_lt (Nat.lt_succ_of_lt lc))), ⟨hz, hTI, ⟨_, _, _, hTO⟩, ⟨_, h1, rfl, rfl⟩, ⟨_, h2, rfl, rfl⟩, ⟨_, h3, rfl, rfl⟩⟩, fun d hdm => ?_, q⟩
        have e' : d = s1.heap.objs.size + 5 ∨ d = s1.heap.objs.size + 3 ∨ d = s1.heap.objs.size + 4 ∨ d = s1.heap.objs.size ∨ d = s1.heap.objs.size + 1 ∨ d = s1.heap.objs.size + 2 := by simpa using hdm
        have hle : s1.heap.objs.size ≤ d := by
          rcases e' with z | z | z | z | z | z
          · rw [z]; exact Nat.le_add_right _ _
          · rw [z]; exact Nat.le_add_right _ _
          · rw [z]; exact Nat.le_add_right _ _
          · rw [z]; exact Nat.le_refl _
          · rw [z]; exact Nat.le_add_right _ _
          · rw [z]; exact Nat.le_add_right _ _
        exact I1.fpOk hle (I1.hok.fresh hle)
/-! ### a list and a tuple -/
def ItzM (K : PySem.W.Frag) (a b : Addr) : It :=
  ⟨fun i H => ∃ (xs ys : List V) (x y : V), SqL K H a xs ∧ SqT K H b ys ∧ xs[i]? = some x ∧ ys[i]? = some y,
    fun i H v H' => ∃ T x y, v = .ref T ∧ H T = none ∧ H' = upd H T (.tup [x, y]) ∧ (∀ xs, SqL K H a xs → xs[i]? = some x) ∧ ∀ ys, SqT K H b ys → ys[i]? = some y,
    fun i H => ∃ xs ys : List V, SqL K H a xs ∧ SqT K H b ys ∧ i ≤ xs.length ∧ i ≤ ys.length ∧ (i = xs.length ∨ i = ys.length)⟩
theorem turn_zipM {P : Program} {w : World} {K : PySem.W.Frag} {elts : List Expr} {kk : Nat} {tpos : Pos} {a b z TI TO i1 i2 : Addr} (S : ZipSep2 z TI TO i1 i2 [i1, a] [i2, b]) (n1 : a ≠ i1) (n2 : b ≠ i2) :
    Turn P w K (.Tuple elts kk tpos) (ItzM K a b) [z, TI, TO, i1, i2] z (fun i h => IsZip h z TI TO .none ∧ IsTupOf2 h TI (.ref i1) (.ref i2) ∧ (∃ x y, IsTupOf2 h TO x y) ∧ h.IsListIter i1 a i ∧ h.IsTupleIter i2 b i) where
  mem := by simp
  obj := fun i h st d hd => by
    obtain ⟨hz, hTI, ⟨x, y, hTO⟩, ⟨o1, e1, _, d1⟩, ⟨o2, e2, _, d2⟩⟩ := st
    have e' : d = z ∨ d = TI ∨ d = TO ∨ d = i1 ∨ d = i2 := by simpa using hd
    rcases e' with q | q | q | q | q
    · rw [q]; exact ⟨_, hz, fun v q => nomatch q⟩
    · rw [q]; exact ⟨_, hTI, fun v q => nomatch q⟩
    · rw [q]; exact ⟨_, hTO, fun v q => nomatch q⟩
    · rw [q]; exact ⟨o1, e1, fun v q => by rw [d1] at q; cases q⟩
    · rw [q]; exact ⟨o2, e2, fun v q => by rw [d2] at q; cases q⟩
  keep := fun i h h' st k => by
    obtain ⟨hz, hTI, ⟨x, y, hTO⟩, h1, h2⟩ := st
    exact ⟨k z (by simp) _ hz, k TI (by simp) _ hTI, ⟨x, y, k TO (by simp) _ hTO⟩, h1.at fun o q => k i1 (by simp) o q, h2.at fun o q => k i2 (by simp) o q⟩
  item := by
    intro X hP hw hK hc i pins s σ H E I hf st hg
    subst hP hw hK
    obtain ⟨hz, hTI, ⟨x0, y0, hTO⟩, h1, h2⟩ := st
    obtain ⟨xs, ys, x, y, hqx, hqy, hx, hy⟩ := hg
    obtain ⟨its, rv, p, _⟩ := I.list hqx
    obtain ⟨its2, rv2, p2, _⟩ := I.tuple hqy
    obtain ⟨v1, hv1, ru1⟩ := rv.get hx
    obtain ⟨v2, hv2, ru2⟩ := rv2.get hy
    have hzl : z < s.heap.objs.size := Heap.lt_size hz
    have hh : X.A.in1.handled = none := I.ok.hd hc
    have b1 : i < its.toArray.size := by simpa using (List.getElem?_eq_some_iff.mp hv1).1
    have b2 : i < its2.toArray.size := by simpa using (List.getElem?_eq_some_iff.mp hv2).1
    refine wpAny_pyNext_zipD2_item S (Draws.list hh i1 a n1 its.toArray) (Draws.tuple hh i2 b n2 its2.toArray) hz hTI hTO ⟨h1, p.isList⟩ ⟨h2, p2⟩ b1 b2 fun y1 y2 h' tk q1 q2 z' TO' h1' h2' hT hsz hk => ?_
    have e1 : y1 = v1 := by
      have : its[i]? = some y1 := by simpa using q1
      rw [hv1] at this; exact (Option.some.inj this).symm
    have e2 : y2 = v2 := by
      have : its2[i]? = some y2 := by simpa using q2
      rw [hv2] at this; exact (Option.some.inj this).symm
    subst e1 e2
    refine ⟨_, rfl, wpAny_letOwnedTupleGo_zip (s := { s with heap := h', toks := tk }) z' fun h'' z'' sb => ?_⟩
    replace sb : Heap.SameBut z h' h'' := sb
    have hT2 : h''.get? s.heap.objs.size = some { cls := .type "tuple", data := .seq #[y1, y2] } := (sb.2 _ (Nat.ne_of_gt hzl)).trans hT
    have new : ObjOk X.prog X.w (upd H s.heap.objs.size (.tup [x, y])) h'' s.heap.objs.size (.tup [x, y]) :=
      ⟨by show 2 ≤ sizeLine; decide, [y1, y2], .cons ru1 (.cons ru2 .nil), ⟨_, hT2, rfl, _, rfl⟩⟩
    have I1 : Inv X pins σ (upd H s.heap.objs.size (.tup [x, y])) { s with heap := h'', toks := tk } :=
      I.turnedNew (ch := [z, TI, TO, i1, i2]) (fun d o hb q => (sb.2 d (fun q' => hb (by simp [q']))).trans (hk d o (fun q' => hb (by simp [q'])) (fun q' => hb (by simp [q'])) (fun q' => hb (by simp [q'])) (fun q' => hb (by simp [q'])) q)) hf (Nat.le_refl _) new
    refine ⟨.ref s.heap.objs.size, _, I1, rfl, ⟨_, x, y, rfl, I.hok.fresh (Nat.le_refl _), rfl, fun l hl => by rw [I.list_inj hl hqx]; exact hx, fun l hl => by rw [I.tuple_inj hl hqy]; exact hy⟩,
      ⟨z'', ?_, ⟨y1, y2, ?_⟩, ?_, ?_⟩, fun d hdm => ?_⟩
    · exact (sb.2 _ S.TIz).trans (hk _ _ S.TIz S.TITO S.TIi1 S.TIi2 hTI)
    · exact (sb.2 _ S.TOz).trans TO'
    · exact h1'.1.at fun o q => (sb.2 _ S.zi1.symm).trans q
    · exact h2'.1.at fun o q => (sb.2 _ S.zi2.symm).trans q
    · have hlt : d < s.heap.objs.size := by
        have e' : d = z ∨ d = TI ∨ d = TO ∨ d = i1 ∨ d = i2 := by simpa using hdm
        rcases e' with q | q | q | q | q
        · rw [q]; exact hzl
        · rw [q]; exact Heap.lt_size hTI
        · rw [q]; exact Heap.lt_size hTO
        · rw [q]; obtain ⟨_, e1, _⟩ := h1; exact Heap.lt_size e1
        · rw [q]; obtain ⟨_, e2, _⟩ := h2; exact Heap.lt_size e2
      rw [upd_ne (Nat.ne_of_lt hlt)]
      exact (hf d hdm).1
  done := by
    intro X hP hw hK hc i pins s σ H E I hf st hg
    subst hP hw hK
    obtain ⟨hz, hTI, ⟨x0, y0, hTO⟩, h1, h2⟩ := st
    obtain ⟨xs, ys, hqx, hqy, l1, l2, hend⟩ := hg
    obtain ⟨its, rv, p, _⟩ := I.list hqx
    obtain ⟨its2, rv2, p2, _⟩ := I.tuple hqy
    have m1 : its.toArray.size = xs.length := by simpa using rv.length.symm
    have m2 : its2.toArray.size = ys.length := by simpa using rv2.length.symm
    have hh : X.A.in1.handled = none := I.ok.hd hc
    exact wpAny_pyNext_zipD2_end S (Draws.list hh i1 a n1 its.toArray) (Draws.tuple hh i2 b n2 its2.toArray) hz hTI hTO ⟨h1, p.isList⟩ ⟨h2, p2⟩ (by omega) (by omega) (by omega)
      fun h' tk hk => ⟨rfl, I.turnedL (t' := tk) (ch := [z, TI, TO, i1, i2]) (fun d o hb q => hk d o (fun q' => hb (by simp [q'])) (fun q' => hb (by simp [q'])) (fun q' => hb (by simp [q'])) (fun q' => hb (by simp [q'])) q) hf⟩
  self := fun A i s Q E st h => wpAny_pyIter_zip st.1 h
def iZipM (K : PySem.W.Frag) (ta : TA) : TI := fun σ H R => ta σ H fun vs H1 => ∃ a b xs ys, vs = [.ref a, .ref b] ∧ SqL K H1 a xs ∧ SqT K H1 b ys ∧ R (ItzM K a b) H1
theorem pi_zipM {X : Cx} {e e2 : Expr} {ta : TA} {p pos tpos : Pos} {elts : List Expr} {kk : Nat} (hg : Gl X "zip") (hm : X.mg "zip" = none) (ha : PA X [e, e2] ta)
    (hs : starEach [e, e2] X.env = (false, eval e X.env) :: starEach [e2] X.env := by rfl) (hpl : (backTo pos (starEach [e2] X.env)).any (·.1) = false := by rfl) :
    PI X (.Tuple elts kk tpos) (.Call (.Name "zip" p) [e, e2] [] pos) (iZipM X.K ta) := by
  refine ⟨fun pins s σ H R I h => ?_⟩
  refine Call_ (ld_blt I hg hm PyProof.Rows.boot_zip (PyProof.Rows.callWith_type1 (thn (ha.run pos pins s σ H _ I h) fun us s1 ⟨vs, H1, I1, r1, q1⟩ => ?_) hs hpl))
  obtain ⟨a, b, xs, ys, ex, hqx, hqy, q⟩ := q1
  subst ex
  cases r1 with
  | cons r rr =>
    cases rr with
    | cons r' rr =>
      cases rr
      cases r
      cases r'
      obtain ⟨its, rv, p1, _⟩ := I1.list hqx
      obtain ⟨its2, rv2, p2, _⟩ := I1.tuple hqy
      obtain ⟨o2, ho2, _⟩ := id p2
      have la : a < s1.heap.objs.size := p1.lt
      have lb : b < s1.heap.objs.size := Heap.lt_size ho2
      refine zip_begins2 (begins_list a its.toArray) (begins_tuple b its2.toArray) p1.isList p2 fun h' hz hTI hTO h1 h2 hsz hk => wpAny_pyIter_zip hz ?_
      have I2 : Inv X pins σ H1 { s1 with heap := h' } := I1.kept (t' := s1.toks) hk
      have one : ∀ (d N : Addr), d < N → ∀ x ∈ [d], x < N := fun d N hd x hx => by rw [List.mem_singleton.mp hx]; exact hd
      refine ⟨s1.heap.objs.size + 4, [s1.heap.objs.size + 4, s1.heap.objs.size + 2, s1.heap.objs.size + 3, s1.heap.objs.size, s1.heap.objs.size + 1], _, _, H1, rfl, I2,
        turn_zipM (zip_sep2 (fp1 := [a]) (fp2 := [b]) (one _ _ la) (one _ _ lb)) (Nat.ne_of_lt la) (Nat.ne_of_lt (Nat.lt_succ_of_lt lb)), ⟨hz, hTI, ⟨_, _, hTO⟩, ⟨_, h1, rfl, rfl⟩, ⟨_, h2, rfl, rfl⟩⟩, fun d hdm => ?_, q⟩
      have e' : d = s1.heap.objs.size + 4 ∨ d = s1.heap.objs.size + 2 ∨ d = s1.heap.objs.size + 3 ∨ d = s1.heap.objs.size ∨ d = s1.heap.objs.size + 1 := by simpa using hdm
      have hle : s1.heap.objs.size ≤ d := by
        rcases e' with z | z | z | z | z
        · rw [z]; exact Nat.le_add_right _ _
        · rw [z]; exact Nat.le_add_right _ _
        · rw [z]; exact Nat.le_add_right _ _
        · rw [z]; exact Nat.le_refl _
        · rw [z]; exact Nat.le_add_right _ _
      exact I1.fpOk hle (I1.hok.fresh hle)
end Lm

namespace Lm
open PySem L2 PySem.Spec PyProof.Rows
/-- l.insert(k, y), 0 <= k <= len(l) -/
def rInsert : V → List V → Hp → VK → Prop := fun x vs H Q => ∃ (l : Addr) (xs : List V) (i : Int) (k : Nat) (y : V), x = .ref l ∧ vs = [.int i, y] ∧ i = (k : Int) ∧ H l = some (.lst xs) ∧ k ≤ xs.length ∧ xs.length < 100000 ∧ Q .non (upd H l (.lst (xs.take k ++ y :: xs.drop k)))
theorem mt_insert {X : Cx} : MtM X "list.insert" rInsert := by
  intro pins s σ H x vs v us Q I rx rv h
  obtain ⟨l, xs, i, k, y, rfl, rfl, hi, hH, hk, hz, q⟩ := h
  cases rx
  obtain ⟨u, w, rfl, ru, rw'⟩ := rv.two
  obtain ⟨t, rfl⟩ := ru
  obtain ⟨z, its, n, r, hl, e⟩ := I.lstM hH
  have hli : its.length = xs.length := hl.symm
  have hk1 : (0 : Int) ≤ i := by omega
  have hk2 : i ≤ 100000 := by omega
  have fit : Builtin.List.listFitsIndex i = true := fitsIndex_both (Int.le_trans (by decide) hk1) (Int.lt_of_le_of_lt hk2 (by decide))
  have sl : (100000 : Nat) ≤ sizeLine := by decide
  refine call_meets F.slot_list_insert ⟨_, e, rfl⟩ F.entry_list_insert (F.args_list_insert_3 _ _ _) (PySem.AutoSeq1.list_insert_list_int_val_1 l its.toArray n i t w (by simp [fit]) (by rw [List.size_toArray]; omega)) ⟨e, ?_⟩
  refine ⟨.non, _, I.lset (its' := its.take k ++ w :: its.drop k) hH e ?_ ((r.take k).append (.cons rw' (r.drop k))) ?_, rfl, q⟩
  · show (its.toArray.extract 0 (if i < 0 then (i + (its.toArray.size : Int)).toNat else min i.toNat its.toArray.size)).push w ++ its.toArray.extract (if i < 0 then (i + (its.toArray.size : Int)).toNat else min i.toNat its.toArray.size) = (its.take k ++ w :: its.drop k).toArray
    have h0 : ¬ i < 0 := by omega
    have h1 : i.toNat = k := by omega
    rw [if_neg h0, h1, List.size_toArray, Nat.min_eq_left (by omega)]
    apply Array.toList_inj.mp
    simp
    rw [List.take_of_length_le (by simp)]
  · rw [List.length_append, List.length_cons, List.length_take, List.length_drop]
    omega
end Lm

namespace Lm
open PySem PySem.Spec PyProof.Rows L2 Builtin PySem.HandSPX
/-! ### own errors made with keywords -/
section
variable {prog : Program} {w : World} {A : Around} {E : Value → Shared → Prop} {R : Result → Shared → Prop} {h : Heap} {g : Array GenState} {d : Drawn} {t : Nat} {os : OsState} {vs : List Value} {kw : List (Str × Value)}
variable {nm q : Str} {C N : Addr} {bs bm bmB : List Value} {hdct : Bool} {sn : List Str} {sub : List Value} {ab : Bool} {col : Option Bool} {dd : Option Addr} {k0 k1 k2 k3 k5 : Option Value} {B newId initId : String}
theorem exk_check {M : Model} (F : ExcBaseFacts B newId initId bmB) (hT : ∀ X : String, bm.contains (.type X) = bmB.contains (.type X)) {Q : Unit → Shared → Prop}
    (hC : h.get? C = some (excClassObj nm q C N bs bm hdct sn sub ab col dd k0 k1 k2 k3 k5 newId)) (hq : Q () ⟨h, g, d, t, os⟩) : wpAny M A (checkBuiltinCall newId ⟨.ref C :: vs, kw⟩) Q E ⟨h, g, d, t, os⟩ := by
  have fB : (Value.ref C :: bm).contains (.type B) = true := by rw [List.contains_cons, hT, F.hasB, Bool.or_true]
  have fS := F.noStar
  simp only [checkBuiltinCall, F.newKind, F.newSplit, F.newRow]
  repeat (first | with_reducible refine wpAny_loadPart_at hC ?_ | (with_reducible refine wpAny_isSubtype_exc hC ?_; rw [fB]) | with_reducible refine wpAny_staticBase_exc hC ?_ | with_reducible refine wpAny_madeBy_exc hC ?_ | simp only [bne_self_eq_false, Bool.false_eq_true, if_false] | wp_step)
  exact hq

theorem exk_new (F : ExcBaseFacts B newId initId bmB) (hT : ∀ X : String, bm.contains (.type X) = bmB.contains (.type X))
    (hC : h.get? C = some (excClassObj nm q C N bs bm hdct sn sub ab col dd k0 k1 k2 k3 k5 newId)) (hz : vs.length ≤ sizeLine)
    (hq : R (.ok (.ret (.ref (h.objs.size + 1)))) ⟨(h.push (PySem.W.kdv_tup vs)).push (excO C h.objs.size), g, d, t, os⟩) : codeAny (model prog w) A (.builtin newId ⟨.ref C :: vs, kw⟩) R ⟨h, g, d, t, os⟩ := by
  have fE := F.ends
  have fB : (Value.ref C :: bm).contains (.type B) = true := by rw [List.contains_cons, hT, F.hasB, Bool.or_true]
  have fA : (Value.ref C :: bm).contains (.type "AttributeError") = false := by rw [List.contains_cons, hT, F.noAttr]; rfl
  have fN : (Value.ref C :: bm).contains (.type "NameError") = false := by rw [List.contains_cons, hT, F.noName]; rfl
  refine codeAny_builtinAt F.entry ?_
  unfold Builtin.«BaseException.__new__»
  refine PySem.wpAt_bind ?_
  show PySem.wpAt _ _ _ (stack >>= _) _ _ _
  refine PySem.wpAt_bind (PySem.wpAt_stack fun _ _ => PySem.wpAt_of_wpAny ?_)
  wp_walk
  refine PySem.wpAt_of_wpAny ?_
  rw [F.owner]
  repeat (first | with_reducible refine wpAny_loadPart_at hC ?_ | (with_reducible refine wpAny_isSubtype_exc hC ?_; first | rw [fB] | rw [fA] | rw [fN]) | with_reducible refine wpAny_madeHere_exc F.canon hC ?_ | wp_step)
  show R _ _
  rw [Heap.size_push]
  exact hq
theorem exk_type (F : ExcBaseFacts B newId initId bmB) (hT : ∀ X : String, bm.contains (.type X) = bmB.contains (.type X)) {fI : Addr} {Q : Fin → Shared → Prop}
    (hC : h.get? C = some (excClassObj nm q C N bs bm hdct sn sub ab col dd k0 k1 k2 k3 k5 newId))
    (hi : PySem.W.Looks (model prog w) h (typeLookup (.ref C) "__init__") (some (.ref fI))) (hb : ∀ self, PySem.W.Looks (model prog w) h (bindSpecial (.ref fI) self) (.ref fI, [self])) (hz : vs.length ≤ sizeLine)
    (hq : codeAny (model prog w) A (.call (.ref fI) ⟨.ref (h.objs.size + 1) :: vs, kw⟩)
      (fun r s' => match r with | .ok (.ret v) => v = .none ∧ Q (.done (.ret (.ref (h.objs.size + 1)))) s' | .ok _ => False | .error e => E e s')
      ⟨(h.push (PySem.W.kdv_tup vs)).push (excO C h.objs.size), g, d, t, os⟩) :
    wpAny (model prog w) A (Builtin.«type.__call__» ⟨.ref C :: vs, kw⟩) Q E ⟨h, g, d, t, os⟩ := by
  repeat (first | with_reducible refine wpAny_madeBy_exc hC ?_ | with_reducible refine wpAny_loadPart_at hC ?_ | wp_step)
  refine codeAny_call_builtin_code (Code.quiet_builtin _ F.quiet) (exk_check F hT hC (exk_new F hT hC hz ?_))
  show wpAny _ _ _ _ _ _
  have kk : ∀ b o, h.get? b = some o → ((h.push (PySem.W.kdv_tup vs)).push (excO C h.objs.size)).get? b = some o := fun b o e => Heap.get?_push_of_some _ (Heap.get?_push_of_some _ e)
  have gC := kk _ _ hC
  have gE : ((h.push (PySem.W.kdv_tup vs)).push (excO C h.objs.size)).get? (h.objs.size + 1) = some (excO C h.objs.size) := by heap_get
  have cC : (Value.ref C :: bm).contains (.ref C) = true := by simp
  unfold isInstance
  repeat (first | with_reducible refine wpAny_loadPart_at gE ?_ | (with_reducible refine wpAny_isSubtype_exc gC ?_; rw [cC]) | wp_step)
  show wpAny _ _ (typeLookup (.ref C) _) _ _ _
  refine (hi.keeps kk).at (wpAny_holding (wpAny_bind (((hb (.ref (h.objs.size + 1))).keeps kk).at ?_)))
  refine wpAny_bind (wpAny_call (codeAny_mono hq fun r s' z => ?_))
  cases r with
  | error e => exact z
  | ok fl =>
    cases fl with
    | ret v =>
      obtain ⟨rfl, z⟩ := z
      first
        | exact wpAny_pure (wpAny_pure z)
        | (wp_walk; exact z)
    | next => exact z.elim
    | brk => exact z.elim
    | cont => exact z.elim
theorem exk_tc {M : Model} {Q : Unit → Shared → Prop} (hC : h.get? C = some (excClassObj nm q C N bs bm hdct sn sub ab col dd k0 k1 k2 k3 k5 newId)) (hq : Q () ⟨h, g, d, t, os⟩) :
    wpAny M A (checkBuiltinCall "type.__call__" ⟨.ref C :: vs, kw⟩) Q E ⟨h, g, d, t, os⟩ := by
  have f3 := tc_sub
  have hTy : (⟨h, g, d, t, os⟩ : Shared).TypeIs (.ref C) "type" := ⟨_, hC, rfl⟩
  simp only [checkBuiltinCall, tc_kind, tc_split]
  repeat (any_goals (first | assumption | with_reducible refine wpAny_onRaise ?_ | with_reducible refine wpAny_map ?_ | with_reducible refine wpAny_loadPart_at hC ?_ | wp_step))
theorem exk_call (F : ExcBaseFacts B newId initId bmB) (hT : ∀ X : String, bm.contains (.type X) = bmB.contains (.type X)) {fI : Addr}
    (hC : h.get? C = some (excClassObj nm q C N bs bm hdct sn sub ab col dd k0 k1 k2 k3 k5 newId))
    (hi : PySem.W.Looks (model prog w) h (typeLookup (.ref C) "__init__") (some (.ref fI))) (hb : ∀ self, PySem.W.Looks (model prog w) h (bindSpecial (.ref fI) self) (.ref fI, [self])) (hz : vs.length ≤ sizeLine)
    (hq : codeAny (model prog w) (A.under (.builtin "type.__call__" ⟨.ref C :: vs, kw⟩)) (.call (.ref fI) ⟨.ref (h.objs.size + 1) :: vs, kw⟩) (PySem.W.InitBack (h.objs.size + 1) R)
      ⟨(h.push (PySem.W.kdv_tup vs)).push (excO C h.objs.size), g, d, t, os⟩) :
    codeAny (model prog w) A (.call (.ref C) ⟨vs, kw⟩) R ⟨h, g, d, t, os⟩ := by
  have f1 := tc_lookup
  have f2 := tc_bind (.ref C)
  have hTy : (⟨h, g, d, t, os⟩ : Shared).TypeIs (.ref C) "type" := ⟨_, hC, rfl⟩
  refine codeAny_of_tree ?_
  show wpAny _ _ (callAny (.ref C) _) _ _ _
  repeat (any_goals (first | assumption | with_reducible refine wpAny_loadPart_at hC ?_ | wp_step))
  refine ⟨rfl, codeAny_call_builtin_at (Code.quiet_builtin _ (by decide +kernel)) entry_typeCall (exk_tc hC (exk_type F hT hC hi hb hz (codeAny_mono hq fun r s' z => ?_)))⟩
  rcases r with e | (v | _ | _ | _) <;> exact z
end
end Lm

namespace Lm
open PySem L2 PySem.Spec PyProof.Rows Evl
/-! ### own errors held as values -/
/-- C(e, ..), the new error stays -/
def tErV (C : Addr) (sp : Sp) (ta : TA) : TE := fun σ H Q => ta σ H fun vs H1 => vs.length ≤ 1000 ∧ ∀ a, H1 a = none → sp (.ref a :: vs) (upd H1 a (exo a C none)) (fun v H2 => v = .non ∧ Q (.ref a) H2) (fun _ _ _ => False)
/-- C(k = e, ..) -/
def tErVK (C : Addr) (n : Nat) (sp : Sp) (gV : List V → List V → List V) (tk : TA) : TE := fun σ H Q => tk σ H fun zs H1 => zs.length = n ∧ ∀ a, H1 a = none → sp (gV [.ref a] zs) (upd H1 a (exo a C none)) (fun v H2 => v = .non ∧ Q (.ref a) H2) (fun _ _ _ => False)
/-- what the text says of an own error with an own __init__ -/
structure ErrV (P : Program) (w : World) (K : PySem.W.Frag) (mg : Str → Option Value) (base : Heap) (k : Nat) (x : Str) (C fI : Addr) (fd : FuncData) (ps : List Str) (sp : Sp) : Prop where
  T : OexC K C
  ini : PySem.W.findIn K (.ref C) "__init__" = some (some (.ref fI))
  ty : PySem.W.typeIn K (.ref fI) = some (.type "function")
  ok : FnOk P w K mg base CX0 k fI fd ps sp
  bd : Binds K fd ps []
  g : mg x = some (.ref C)
section
variable {X : Cx} {C fI : Addr} {k : Nat} {fd : FuncData} {ps ks : List Str} {sp : Sp} {x : Str} {p pos : Pos} {e : Expr} {es : List Expr} {kws : List Keyword} {ta tk : TA} {g : List Value → List Value → List Value} {gV : List V → List V → List V}
theorem exk_laid {pins : List (Addr × Obj)} {σ : L2.St} {H1 : Hp} {hp : Heap} {gs : Array GenState} {dr : Drawn} {tk : Nat} {os : OsState} (I1 : Inv X pins σ H1 ⟨hp, gs, dr, tk, os⟩) (us : List Value) :
    Inv X pins σ (upd H1 (hp.objs.size + 1) (exo (hp.objs.size + 1) C none)) ⟨(hp.push (PySem.W.kdv_tup us)).push (PySem.HandSPX.excO C hp.objs.size), gs, dr, tk, os⟩ := by
  have hget : ((hp.push (PySem.W.kdv_tup us)).push (PySem.HandSPX.excO C hp.objs.size)).get? (hp.objs.size + 1) = some (PySem.HandSPX.excO C hp.objs.size) := by heap_get
  exact I1.laid (t' := tk) (a := hp.objs.size + 1) (o := exo (hp.objs.size + 1) C none) (h' := (hp.push (PySem.W.kdv_tup us)).push (PySem.HandSPX.excO C hp.objs.size)) (fun b o e => Heap.get?_push_of_some _ (Heap.get?_push_of_some _ e)) (Nat.le_succ _) (exo_ok hget)
theorem pe_erV (D : ErrV X.prog X.w X.K X.mg X.base k x C fI fd ps sp) (hr : Room (k + 1) X.A) (ha : PA X (e :: es) ta) (hg : Gl X x := by rfl)
    (hdb : (x == ("__debug__" : Str)) = false := by decide) (he : starEach (e :: es) X.env = (false, eval e X.env) :: starEach es X.env := by rfl) (hpl : (backTo pos (starEach es X.env)).any (·.1) = false := by rfl) :
    PE X (.Call (.Name x p) (e :: es) [] pos) (tErV C sp ta) := by
  refine ⟨fun pins s σ H Q I h => ?_⟩
  obtain ⟨nm, q, N, bs, bm, sn, sub, ab, col, dd, k0, k1, k2, k3, k5, hC, hbm⟩ := D.T.cls
  refine wpAny_Call_Name_kw (ld_glob I hg D.g ?_ hdb)
  refine PySem.W.callWith_K (h₀ := X.base) I.ok.mod.kin D.T.kC (thn (ha.run pos pins s σ H _ I h) fun us s1 ⟨vs, H1, I1, r1, hz, q1⟩ => ⟨I1.kIn, ?_⟩) he hpl
  show wpAny _ _ (call (.ref C) us) _ _ _
  obtain ⟨hp, gs, dr, tk, os⟩ := s1
  have hq := q1 (hp.objs.size + 1) (I1.hok.fresh (Nat.le_succ _))
  have I2 := exk_laid (C := C) I1 us
  have r2 : Vals (V.ref (hp.objs.size + 1) :: vs) (Value.ref (hp.objs.size + 1) :: us) := .cons rfl r1
  have hl : (Value.ref (hp.objs.size + 1) :: us).length = ps.length := r2.length.symm.trans (D.ok.len _ _ _ _ hq)
  have hus : us.length ≤ sizeLine := by
    rw [← Paired.length r1, sizeLine_eq]
    omega
  have hbd := D.bd _ (Value.ref (hp.objs.size + 1) :: us) I2.kIn (by simpa using hl)
  rw [List.append_nil] at hbd
  refine wpAny_call (exk_call F.excBase_ValueError (fun Y => PySem.HandSPX.refsVE_contains Y bm hbm) (I1.kIn _ _ hC) (PySem.W.looks_findIn I1.kIn D.ini) (fun self => PySem.W.bind_fn I1.kIn self D.ty) hus
    (codeAny_mono (D.ok.run _ X.stack _ _ ⟨Value.ref (hp.objs.size + 1) :: us, []⟩ (Value.ref (hp.objs.size + 1) :: us) _ _ (fun _ _ _ => False) (hr.make C us []) (I2.env0.make C us []) hbd r2 hq) fun r s' hq' => ?_))
  cases r with
  | error er => exact L2.pass0 pins σ _ _ er s' I2 hq'
  | ok fl =>
    cases fl with
    | ret u =>
      obtain ⟨v, H', I3, rv, ev, q3⟩ := I2.after hq'
      subst ev
      exact ⟨rv, ⟨V.ref (hp.objs.size + 1), H', I3, rfl, q3⟩⟩
    | next => exact False.elim hq'
    | brk => exact False.elim hq'
    | cont => exact False.elim hq'
theorem pe_erVK (D : ErrV X.prog X.w X.K X.mg X.base k x C fI fd ps sp) (hb : KBn X.K fd ps 1 ks g gV) (hr : Room (k + 1) X.A) (hkw : PK X kws tk) (hkl : ks.length ≤ 100) (hg : Gl X x := by rfl) (hdb : (x == ("__debug__" : Str)) = false := by decide)
    (hall : (backToKw pos (keywordEach kws X.env)).all (·.1.isSome) = true := by rfl) (hks : (backToKw pos (keywordEach kws X.env)).filterMap (·.1) = ks := by rfl)
    (hpl : ((backTo pos (starEach [] X.env)).any (·.1) || (backToKw pos (keywordEach kws X.env)).any (·.1.isNone)) = false := by rfl) :
    PE X (.Call (.Name x p) [] kws pos) (tErVK C ks.length sp gV tk) := by
  refine ⟨fun pins s σ H Q I h => ?_⟩
  obtain ⟨nm, q, N, bs, bm, sn, sub, ab, col, dd, k0, k1, k2, k3, k5, hC, hbm⟩ := D.T.cls
  refine wpAny_Call_Name_kw (ld_glob I hg D.g ?_ hdb)
  refine PySem.W.callWith_KW0 (h₀ := X.base) I.ok.mod.kin D.T.kC hall ?_ hpl
  refine thn (hkw.run pos pins s σ H _ I h) fun ws s1 ⟨zs, H1, I1, rz, l2, q1⟩ => ⟨I1.kIn, ?_⟩
  rw [hks]
  obtain ⟨hp, gs, dr, tt, os⟩ := s1
  have hq := q1 (hp.objs.size + 1) (I1.hok.fresh (Nat.le_succ _))
  have I2 := exk_laid (C := C) I1 []
  have r1 : Vals [V.ref (hp.objs.size + 1)] [Value.ref (hp.objs.size + 1)] := .cons rfl .nil
  have hwl : ws.length = ks.length := rz.length.symm.trans l2
  have hq0 : sp (gV [.ref (hp.objs.size + 1)] zs) _ _ _ := hq
  refine wpAny_call (exk_call F.excBase_ValueError (fun Y => PySem.HandSPX.refsVE_contains Y bm hbm) (I1.kIn _ _ hC) (PySem.W.looks_findIn I1.kIn D.ini) (fun self => PySem.W.bind_fn I1.kIn self D.ty) (Nat.zero_le _)
    (codeAny_mono (D.ok.run _ X.stack _ _ ⟨[Value.ref (hp.objs.size + 1)], ks.zip ws⟩ (g [Value.ref (hp.objs.size + 1)] ws) _ _ (fun _ _ _ => False) (hr.make C [] (ks.zip ws)) (I2.env0.make C [] (ks.zip ws)) (hb.to _ [Value.ref (hp.objs.size + 1)] ws I2.kIn rfl hwl) (hb.rel r1 rz) hq0) fun r s' hq' => ?_))
  cases r with
  | error er => exact L2.pass0 pins σ _ _ er s' I2 hq'
  | ok fl =>
    cases fl with
    | ret u =>
      obtain ⟨v, H', I3, rv, ev, q3⟩ := I2.after hq'
      subst ev
      exact ⟨rv, ⟨V.ref (hp.objs.size + 1), H', I3, rfl, q3⟩⟩
    | next => exact False.elim hq'
    | brk => exact False.elim hq'
    | cont => exact False.elim hq'
end
/-- C(), no own __init__ -/
def tEr0 (C : Addr) : TE := fun _ H Q => ∀ a, H a = none → Q (.ref a) (upd H a (exo a C none))
section
variable {X : Cx} {C : Addr} {x : Str} {p pos : Pos}
theorem pe_er0 (T : ErrTxt X.K X.mg x C) (hg : Gl X x := by rfl) (hdb : (x == ("__debug__" : Str)) = false := by decide) : PE X (.Call (.Name x p) [] [] pos) (tEr0 C) := by
  refine ⟨fun pins s σ H Q I h => ?_⟩
  refine wpAny_Call_Name_kw (ld_glob I hg T.g ?_ hdb)
  refine PySem.W.callWith_K0 (first := []) I.kIn T.kp ?_
  show wpAny _ _ (call (.ref C) []) _ _ _
  obtain ⟨bm, N, nm, qn, bs, hdct, sn, sub, ab, col, dd, k0, k1, k2, k3, k5, mN, hC, hN, hni, U⟩ := exc_obj I.kIn T.xi
  refine wpAny_call_exc_subT PySem.F.excBase_ValueError U hC hN hni (fun h' e hm => ?_) (Nat.zero_le _)
  obtain ⟨t, ht, _, _⟩ := hm.there
  have hn : H e = none := I.hok.gone hm.new
  exact ⟨.ref e, upd H e (exo e C none), I.laidN hm.keeps hm.new hn (exo_ok ht), rfl, h e hn⟩
end
/-- e.f, e an error that keeps f -/
def tXv (K : PySem.W.Frag) (f : Str) (te : TE) : TE := fun σ H Q => te σ H fun x H1 => ∃ (a C d : Addr) (fs : List (Str × V)) (v : V), x = .ref a ∧ XfC K C ∧ PySem.W.findIn K (.ref C) f = some none ∧ H1 a = some (exo a C (some d)) ∧ H1 d = some (exd d fs) ∧ fs.lookup f = some v ∧ Q v H1
theorem pe_xv {X : Cx} {e : Expr} {te : TE} {pos : Pos} {n : Str} (he : PE X e te) (hb : attributeBase e n X.env (eval e X.env) = eval e X.env := by rfl) : PE X (.Attribute e n pos) (tXv X.K n te) := by
  refine ⟨fun pins s σ H Q I h => ?_⟩
  refine attr_of hb (thn (he.run pins s σ H _ I h) fun u s1 hh => ?_)
  obtain ⟨x, H1, I1, rx, a, C, d, fs, v, ex, T, hno, ea, ed, l, q⟩ := hh
  subst ex
  obtain rfl : u = Value.ref a := rx
  obtain ⟨t1, ha⟩ := exo_at I1.hok ea
  obtain ⟨mA, hns, hr⟩ := exd_at I1.hok ed
  obtain ⟨od, ho, hl⟩ := lookIn_ns hns
  obtain ⟨u, hu, ru⟩ := RelO.some_of (v := v) (o := mA n) (by rw [← l]; exact hr n)
  have J : PySem.W.InstAt s1.heap a _ C (some od) := ⟨ha, rfl, rfl, ho⟩
  exact HandSPX.exc_get I1.kIn J T.ga T.gg T.exC (PySem.W.findObj_own T.hdC hno rfl (by rw [hl, hu])) (handed_of ru) ⟨v, H1, I1.tok _, ru, q⟩
/-! ### isinstance of such an error -/
structure ErrIs (K : PySem.W.Frag) (C : Addr) : Prop where
  cl : (PySem.W.clsIn K C).isSome = true
  ga : PySem.W.findIn K (.ref C) "__getattribute__" = some (some (.builtin "BaseException.__getattribute__"))
  gg : PySem.W.findIn K (.ref C) "__getattr__" = some none
  ex : PySem.W.subIn K (.ref C) (.type "BaseException") = some true
  ca : PySem.W.findIn K (.ref C) "__class__" = some (some (.builtin "object.__class__"))
  ge : PySem.W.specialIn K (.builtin "object.__class__") "__get__" = some (some (.builtin "getset_descriptor.__get__"))
  tk : PySem.W.takesIn K (.builtin "object.__class__") = some true
  ob : PySem.W.mroIn K C (.type "object") = some true
/-- an error, with its dict or without -/
def ExAt (H : Hp) (a C : Addr) : Prop := H a = some (exo a C none) ∨ ∃ d fs, H a = some (exo a C (some d)) ∧ H d = some (exd d fs)
def rIsX (K : PySem.W.Frag) : List V → Hp → VK → Prop := fun xs H Q => ∃ (a C : Addr) (c : V) (u : Value) (b : Bool), xs = [.ref a, c] ∧ ClsV c u ∧ ErrIs K C ∧ ExAt H a C ∧ PySem.W.kitOne K (.ref C) u = some b ∧ Q (.bl b) H
theorem call_isX {X : Cx} : CallR X (.builtin "isinstance") (rIsX X.K) := by
  intro pins s σ H xs us Q I r h
  obtain ⟨a, C, c, u, b, rfl, k, T, ea, e, q⟩ := h
  obtain ⟨u1, u2, rfl, r1, r2⟩ := vals2 r
  obtain rfl : u1 = Value.ref a := r1
  have e2 := k.eq r2
  subst e2
  rcases ea with ea | ⟨d, fs, ea, ed⟩
  · obtain ⟨t1, ha⟩ := exo_at I.hok ea
    have J : PySem.W.InstAt s.heap a _ C none := ⟨ha, rfl, rfl, trivial⟩
    exact PySem.W.kia_one (PySem.W.kitx_exc T.cl T.ga T.gg T.ex T.ca T.ge T.tk T.ob) I.kIn J e (fun z => nomatch z) fun tk => ⟨.bl b, H, I.tok tk, rfl, q⟩
  · obtain ⟨t1, ha⟩ := exo_at I.hok ea
    obtain ⟨mA, hns, hr⟩ := exd_at I.hok ed
    obtain ⟨od, ho, hl⟩ := lookIn_ns hns
    have J : PySem.W.InstAt s.heap a _ C (some od) := ⟨ha, rfl, rfl, ho⟩
    exact PySem.W.kia_one (PySem.W.kitx_exc T.cl T.ga T.gg T.ex T.ca T.ge T.tk T.ob) I.kIn J e (fun z => nomatch z) fun tk => ⟨.bl b, H, I.tok tk, rfl, q⟩
/-! ### a dict is equal to itself -/
theorem kv_keys {κ : Type} {ks : List (κ × V)} {va : List (κ × Value)} (r : KV ks va) : ks.map (·.1) = va.map (·.1) := by
  unfold KV at r
  induction r with
  | nil => rfl
  | cons h t ih => rw [List.map_cons, List.map_cons, h.1, ih]
theorem hits_self {P : Program} {w : World} {A : Around} {s : Shared} {va : List (Key × Value)} (nd : (va.map (·.1)).Nodup) : ∀ r : List (Key × Value), (∀ p ∈ r, p ∈ va) → PySem.W.KeqHitsIn P w A s va r true
  | [], _ => .nil
  | (k, v) :: r, h => by
    have e : PySem.W.KeqHitsIn P w A s va ((k, v) :: r) (true && true) := .hit (PySem.valueAt_of_mem nd (h _ List.mem_cons_self)) ((PySem.SeqAt.EqAt.same _).inModel P w) (hits_self nd r fun p hp => h p (List.mem_cons_of_mem _ hp))
    exact e
def rEqSelf : R2 := fun x y H Q => ∃ a ks, x = .ref a ∧ y = .ref a ∧ H a = some (.dK ks) ∧ (ks.map (·.1)).Nodup ∧ Q (.bl true) H
theorem op_eqSelf {X : Cx} (hu : X.A.units + 1 < cLine) : OpR X (compareOp .Eq) rEqSelf := by
  intro pins s σ H x y v u Q I rx ry h
  obtain ⟨a, ks, rfl, rfl, ea, nd, q⟩ := h
  obtain rfl : v = Value.ref a := rx
  obtain rfl : u = Value.ref a := ry
  obtain ⟨_, ya, va, ra, da⟩ := (show ObjOk X.prog X.w H s.heap a (.dK ks) from I.hok a _ ea)
  have nd2 : (va.map (·.1)).Nodup := by rw [← kv_keys ra]; exact nd
  exact PySem.W.keq_eqIn (knd := mixKind X.prog X.w) (r := true) ya ya da da (by omega) (fun _ => hits_self nd2 va fun p hp => hp) (fin_bl I q (by simp))
end Lm

namespace Lm
open PySem PySem.Spec PyProof.Rows L2
/-! ### a def that calls repr itself: its promise where no repr is under way -/
structure FnOkG (P : Program) (w : World) (K : PySem.W.Frag) (mg : Str → Option Value) (base : Heap) (CX : CXT) (k : Nat) (f : Addr) (fd : FuncData) (ps : List Str) (sp : Sp) : Prop where
  len : ∀ vs H Q E, sp vs H Q E → vs.length = ps.length
  go : ∀ (A : Around), A.guards = some [] → ∀ (out : List Env) (s : Shared) (H : Hp) (args : Args) (us : List Value) (vs : List V) (Q : VK) (E : XK),
    Room k A → Env0 P w K mg base A out s H → BindsTo s fd args (ps.zip us) → Vals vs us → sp vs H Q E → codeAny (model P w) A (.call (.ref f) args) (CR CX out P w H s Q E) s
section
variable {CX : CXT} {P : Program} {w : World} {K : PySem.W.Frag} {mg : Str → Option Value} {base : Heap} {k : Nat} {f : Addr} {sp : Sp}
theorem FnOkG.of_def {nm ql : Str} {pa : Arguments} {bd : List Stmt} {sc : Scope} {dV kV doc pm cdv ct oc : Value} {an od : Option Addr} {sl : Array (Option Value)} {N ps : List Str}
    (lk : K.lookup f = some ⟨oc, od, .func (PySem.W.fnOf nm ql pa bd sc dV kV doc pm an cdv ct), sl⟩) (hc : PySem.W.codeIn K cdv ql = true) (S : FnScope N ps sc) (len : ∀ vs H Q E, sp vs H Q E → vs.length = ps.length)
    (hb : ∀ (A : Around), A.guards = some [] → ∀ (out : List Env) (s : Shared) (H : Hp) (vs : List V) (Q : VK) (E : XK), Room k (A.deeper (envOfC ql sc s.heap.objs.size f cdv)) → sp vs H Q E →
      ∃ t, PSs (cxOf CX P w K mg base N ql sc f cdv A out s H E) bd t ∧ t { nx := fun _ H' => Q .non H', rt := Q } (L2.start N vs) H) :
    FnOkG P w K mg base CX (k + 1) f (PySem.W.fnOf nm ql pa bd sc dV kV doc pm an cdv ct) ps sp where
  len := len
  go A hg out s H args us vs Q E hr e0 hbi r h := by
    have kept : ∀ b o, base.get? b = some o → s.heap.get? b = some o := fun b o e => (e0.bs b o e).1
    have local_ : ∀ y ∈ ps.zip us, sc.names.lookup y.1 = some .local ∨ (sc.names.lookup y.1 = some .cell ∧ ((cellsFrom (s.heap.objs.size + 1) sc.names []).lookup y.1).isSome = true) := by
      intro y hy
      have hm : y.1 ∈ ps := (List.of_mem_zip (a := y.1) (b := y.2) hy).1
      exact (S.par y.1 hm).elim .inl fun q => .inr ⟨q, PySem.W.cellsFrom_some _ _ _ (.inl q)⟩
    refine codeAny_call_function hr.depth (e0.mod.kin.keeps kept _ _ lk) rfl S.co S.gen rfl (PySem.W.codeRec_of (e0.mod.kin.keeps kept) hc) (hbi _ _ _ _ ?_)
    refine wpAny_newFunctionEnv_cells S.kind local_ ?_
    intro env he s1 x
    subst he
    obtain ⟨t, ht, hq⟩ := hb A hg out s H vs Q E (hr.deeper _) h
    refine ⟨(e0.mod.nolimit.keeps kept).keeps x.toInCall.keep, codeAny_func (wpAny_mono (ht.run [] s1 (L2.start N vs) H _ (inv_start S hr.hd e0 (len _ _ _ _ h) r x) hq) ?_ fun _ _ z => z)⟩
    intro fl s' hs
    cases fl with
    | brk => obtain ⟨_, _, _, q⟩ := hs; exact q.elim
    | cont => obtain ⟨_, _, _, q⟩ := hs; exact q.elim
    | ret u => obtain ⟨v, σ', H', J, rv, q⟩ := hs; exact ⟨v, H', J.os, J.bare, J.base, J.hok, rv, q⟩
    | next => obtain ⟨σ', H', J, q⟩ := hs; exact ⟨.non, H', J.os, J.bare, J.base, J.hok, rfl, q⟩
theorem Fun.okG {x ql : Str} {st : Stmt} {fd : FuncData} {N ps : List Str} (F : L2.Fun K x ql st f fd) (S : FnScope N ps (defScope st)) (len : ∀ vs H Q E, sp vs H Q E → vs.length = ps.length)
    (hb : ∀ (cdv : Value) (A : Around), A.guards = some [] → ∀ (out : List Env) (s : Shared) (H : Hp) (vs : List V) (Q : VK) (E : XK), Room k (A.deeper (envOfC ql (defScope st) s.heap.objs.size f cdv)) → sp vs H Q E →
      ∃ t, PSs (cxOf CX0 P w K mg base N ql (defScope st) f cdv A out s H E).nox (defBody st) t ∧ t { nx := fun _ H' => Q .non H', rt := Q } (L2.start N vs) H) : FnOkG P w K mg base CX0 (k + 1) f fd ps sp := by
  obtain ⟨_, _, _, _, _, _, cdv, _, _, rfl, lk, hc⟩ := F.ex
  exact .of_def lk hc S len fun A hg out s H vs Q E hr h => let ⟨t, a, b⟩ := hb cdv A hg out s H vs Q E hr h; ⟨t, a.nox, b⟩
theorem FnOkG.mono {j : Nat} {fd : FuncData} {ps : List Str} (F : FnOkG P w K mg base CX j f fd ps sp) (h : j ≤ k) : FnOkG P w K mg base CX k f fd ps sp := ⟨F.len, fun A hg out s H args us vs Q E hr => F.go A hg out s H args us vs Q E (hr.mono h)⟩
end
/-! ### the law's call -/
/-- what is tracked behind the top: the script, where it is no object of K, and the tables of code objects -/
def hpL (K : PySem.W.Frag) (a : Addr) (it : List V) (ob : Obj) (T : List Addr) : Hp := fun c =>
  if c ∈ T then some (.tbl #[]) else if c = a ∧ K.lookup a = none then some (.frz ob (.lst it)) else none
section
variable {K : PySem.W.Frag} {a c : Addr} {it : List V} {ob : Obj} {T : List Addr}
theorem hpL_T (h : c ∈ T) : hpL K a it ob T c = some (.tbl #[]) := if_pos h
theorem hpL_a (h : a ∉ T) (hk : K.lookup a = none) : hpL K a it ob T a = some (.frz ob (.lst it)) := (if_neg h).trans (if_pos ⟨rfl, hk⟩)
theorem hpL_cases (K : PySem.W.Frag) (a : Addr) (it : List V) (ob : Obj) (T : List Addr) (c : Addr) : (c ∈ T ∧ hpL K a it ob T c = some (.tbl #[])) ∨ (c = a ∧ a ∉ T ∧ K.lookup a = none ∧ hpL K a it ob T c = some (.frz ob (.lst it))) ∨ hpL K a it ob T c = none := by
  by_cases h : c ∈ T
  · exact .inl ⟨h, hpL_T h⟩
  · by_cases h2 : c = a ∧ K.lookup a = none
    · obtain ⟨rfl, hk⟩ := h2
      exact .inr (.inl ⟨rfl, h, hk, hpL_a h hk⟩)
    · exact .inr (.inr ((if_neg h).trans (if_neg h2)))
end
theorem FnOkG.law {P : Program} {w : World} {K : PySem.W.Frag} {mg mb : Str → Option Value} {CX : CXT} {k : Nat} {fa a : Addr} {cs : List (Addr × Addr)} {fd : FuncData} {x : Str} {sp : Sp} {s₁ : Shared} {us : List Value} {ns : List Int}
    (KX : K.In s₁.heap) (hns : s₁.heap.Ns mainGlobals mg) (hb : s₁.heap.Ns builtinsNs mb) (hbb : ∀ x : Str, x ≠ "__name__" → mb x = bootBuiltins x) (hlim : s₁.heap.NoLimit) (hg : s₁.gens = #[])
    (hT : ∀ p ∈ cs, s₁.heap.get? p.2 = some { cls := .none, data := .fields #[] }) (nT : ∀ p ∈ cs, K.lookup p.2 = none) (hC : ∀ p ∈ cs, PySem.W.CodeHd s₁.heap p.1 p.2)
    (hbm : ∃ (bm : Addr) (o : Obj), mg "__builtins__" = some (.ref bm) ∧ bm ≠ builtinsNs ∧ s₁.heap.get? bm = some o ∧ o.cls = .type "module" ∧ o.dict = some builtinsNs ∧ o.data = .plain)
    (ha : s₁.heap.get? a = some { cls := .type "list", data := .seq us.toArray }) (hi : IntsAre us ns) (hl : ns.length ≤ sizeLine) (hr : Room k callerA)
    (F : ∀ b : Heap, K.In b → b.Ns mainGlobals mg → (∀ p ∈ cs, LamX.TabB b mg p.1 p.2) → FnOkG P w K mg b CX k fa fd [x] sp) (hbi : ∀ (s : Shared) (u : Value), BindsTo s fd ⟨[u], []⟩ [(x, u)])
    (hsp : ∀ H : Hp, (∀ p ∈ cs, H p.2 = some (.tbl #[])) → SqL K H a (ns.map V.int) → sp [.ref a] H (fun v _ => v = .bl true) fun _ _ _ => False)
    (hCX : ∀ H e s', CX [] H s₁ (fun _ _ _ => False) e s' → False) :
    codeAny (model P w) callerA (.call (.ref fa) ⟨[.ref a], []⟩) (fun r s' => r = .ok (.ret (.bool true)) ∧ OldK s₁.heap s'.heap ∧ s'.os = s₁.os ∧ AllBare s'.gens) s₁ := by
  let T := cs.map Prod.snd
  let ob : Obj := { cls := .type "list", data := .seq us.toArray }
  let H : Hp := hpL K a (ns.map V.int) ob T
  have rv : Vals (ns.map V.int) us := vals_ints hi
  have lu : us.length = ns.length := hi.length
  have inT : ∀ {c}, c ∈ T → ∃ p ∈ cs, p.2 = c := fun hc => List.mem_map.mp hc
  have ofT : ∀ p ∈ cs, p.2 ∈ T := fun p hp => List.mem_map.mpr ⟨p, hp, rfl⟩
  have tab : ∀ {c}, c ∈ T → s₁.heap.get? c = some { cls := .none, data := .fields #[] } := fun hc => let ⟨p, hp, e⟩ := inT hc; e ▸ hT p hp
  have naT : a ∉ T := fun z => by
    have e := (tab z).symm.trans ha
    have e : Data.fields #[] = Data.seq us.toArray _ := congrArg Obj.data (Option.some.inj e)
    cases e
  -- an object that is neither the script nor a table is not tracked
  have free : ∀ {c : Addr} {o : Obj}, s₁.heap.get? c = some o → (∀ v n, o.data ≠ .seq v n) → o.data ≠ .fields #[] → H c = none := fun {c o} e h1 h2 => by
    rcases hpL_cases K a (ns.map V.int) ob T c with ⟨hc, _⟩ | ⟨rfl, _⟩ | z
    · have := (tab hc).symm.trans e
      cases this
      exact (h2 rfl).elim
    · have := ha.symm.trans e
      cases this
      exact (h1 _ _ rfl).elim
    · exact z
  have freeK : ∀ {c : Addr} {o : Obj}, K.lookup c = some o → H c = none := fun {c o} e => by
    rcases hpL_cases K a (ns.map V.int) ob T c with ⟨hc, _⟩ | ⟨rfl, _, hk, _⟩ | z
    · obtain ⟨p, hp, rfl⟩ := inT hc
      have := (nT p hp).symm.trans e
      cases this
    · have := hk.symm.trans e
      cases this
    · exact z
  have bas : ∀ {c : Addr} {o : Obj}, s₁.heap.get? c = some o → H c = none → (hidT s₁.heap H).get? c = some o := fun e n => hidT_get e n
  have bDict : ∀ {c : Addr} {m : Str → Option Value}, s₁.heap.Ns c m → (hidT s₁.heap H).Ns c m := by
    rintro c m ⟨o, es, ep, e, d, r⟩
    exact ⟨o, es, ep, bas e (free e (fun _ _ z => by rw [d] at z; cases z) fun z => by rw [d] at z; cases z), d, r⟩
  have inK : K.In (hidT s₁.heap H) := fun c o e => bas (KX c o e) (freeK e)
  have hMod : L2.Mod K mg (hidT s₁.heap H) := by
    obtain ⟨mc, l1, l2⟩ := hlim
    exact ⟨inK, bDict hns, ⟨mb, bDict hb, hbb⟩, ⟨mc, bDict l1, l2⟩⟩
  have hok : HOk P w H s₁.heap := fun c u z => by
    rcases hpL_cases K a (ns.map V.int) ob T c with ⟨hc, e⟩ | ⟨rfl, _, _, e⟩ | e
    · have := e.symm.trans z
      cases this
      exact tab hc
    · have := e.symm.trans z
      cases this
      exact ⟨ha, by rw [List.length_map]; exact hl, us, _, rv, ha⟩
    · have := e.symm.trans z
      cases this
  have hS : SqL K H a (ns.map V.int) := by
    cases hk : K.lookup a with
    | none => exact .inl (.inr ⟨ob, hpL_a naT hk⟩)
    | some o =>
      have := (KX a o hk).symm.trans ha
      cases this
      exact .inr ⟨_, us.toArray, _, hk, rfl, rfl, rfl, by rw [List.size_toArray, lu]; exact hl, by simpa using rv⟩
  have tabs : ∀ p ∈ cs, LamX.TabB (hidT s₁.heap H) mg p.1 p.2 := fun p hp => by
    have tp := hT p hp
    have gl : ∀ {o : Obj}, s₁.heap.get? p.2 = some o → (∀ es n, o.data ≠ .dict es n) := fun e es n z => by
      have := tp.symm.trans e
      cases this
      cases z
    refine ⟨?_, ?_, fun z => ?_⟩
    · obtain ⟨o, vs, file, tf, fl, tg, nF, tx, tt, q⟩ := hC p hp
      exact ⟨o, vs, file, tf, fl, tg, nF, tx, tt, bas q.1 (free q.1 (fun _ _ z => by rw [q.2.2.1] at z; cases z) fun z => by
        have z' : Data.fields vs = Data.fields #[] := q.2.2.1.symm.trans z
        cases z'
        have := q.2.2.2.1
        simp at this), q.2⟩
    · obtain ⟨bm, o, q⟩ := hbm
      have hd : o.data = .plain := q.2.2.2.2.2
      have n1 : bm ≠ mainGlobals := fun z => by
        obtain ⟨o', es, ep, e, d, _⟩ := hns
        have := (z ▸ e).symm.trans q.2.2.1
        cases this
        rw [hd] at d
        cases d
      have n2 : bm ≠ p.2 := fun z => by
        have := (z ▸ tp).symm.trans q.2.2.1
        cases this
        cases hd
      exact ⟨bm, o, q.1, q.2.1, n1, n2, bas q.2.2.1 (free q.2.2.1 (fun _ _ z => by rw [hd] at z; cases z) fun z => by rw [hd] at z; cases z), q.2.2.2⟩
    · obtain ⟨o, es, ep, e, d, _⟩ := hns
      exact gl (z ▸ e) es ep d
  have e0 : Env0 P w K mg (hidT s₁.heap H) callerA [] s₁ H := ⟨rfl, hMod, fun c o e => of_hidT e, Nat.le_of_eq (hidT_size _ _), trivial, (fun c hc => by simp [frs] at hc), hok, .of_eq hg⟩
  refine codeAny_mono ((F _ inK (bDict hns) tabs).go callerA rfl [] s₁ H ⟨[.ref a], []⟩ [.ref a] [.ref a] _ _ hr e0 (hbi s₁ _) (.cons rfl .nil) (hsp H (fun p hp => hpL_T (ofT p hp)) hS)) ?_
  intro r s' h
  cases r with
  | error e => exact (hCX H e s' h).elim
  | ok fl =>
    cases fl with
    | ret u =>
      obtain ⟨v, H', os, bare, un, hok', r', rfl⟩ := h
      obtain rfl : u = Value.bool true := r'
      have grown : ∀ c ∈ T, ∃ more : Array Value, s'.heap.get? c = some { cls := .none, data := .fields more } := fun c hc => let ⟨_, z⟩ := un.tbls c #[] (hpL_T hc); ⟨_, hok' c _ z⟩
      have same : ∀ c o, c ∉ T → s₁.heap.get? c = some o → s'.heap.get? c = some o := fun c o nc e => by
        rcases hpL_cases K a (ns.map V.int) ob T c with ⟨hc, _⟩ | ⟨rfl, _, _, z⟩ | z
        · exact absurd hc nc
        · have g := (hok' c _ (un.frzs c _ _ z)).1
          rw [ha] at e
          cases e
          exact g
        · exact un.keep c o e z (by simp [frs]) (by simp)
      refine ⟨rfl, ⟨fun c o e => ?_, fun c o e => ?_⟩, os, bare⟩
      · by_cases hc : c ∈ T
        · obtain ⟨m, hm⟩ := grown c hc
          have e2 := (tab hc).symm.trans e
          cases e2
          obtain ⟨p, hp, rfl⟩ := inT hc
          exact .inr (.inl ⟨((hC p hp).tab (hT p hp)).isCodeTable, rfl, #[], m, rfl, by rw [Array.empty_append]; exact hm⟩)
        · exact .inl (same c o hc e)
      · by_cases hc : c ∈ T
        · exact let ⟨_, hm⟩ := grown c hc; ⟨_, hm⟩
        · exact ⟨o, same c o hc e⟩
    | _ => exact h.elim
/-- the end of a law whose def calls repr, over a head by facts, with tables of code objects -/
theorem walkG {l : PySem.W.OpenLaw} {n k : Nat} {q : Program} {loose : List Str} {XP : (Str → Option Value) → Heap → Prop} {YP : World → Heap → Prop} {d : DefRec} {x : Str}
    (hn : l.most = some n) (hn2 : n ≤ sizeLine) (hdf : d.params.defaults = []) (hr : Room k callerA)
    (F : ∀ (w : World) (mg : Str → Option Value) (fa : Addr) (h : Heap), YP w h → h.Ns mainGlobals mg → mg d.name = some (.ref fa) →
      ∃ (K : PySem.W.Frag) (fd : FuncData) (cs : List (Addr × Addr)) (sp : Sp), K.In h ∧ (∀ p ∈ cs, h.get? p.2 = some { cls := .none, data := .fields #[] }) ∧ (∀ p ∈ cs, K.lookup p.2 = none) ∧ (∀ p ∈ cs, PySem.W.CodeHd h p.1 p.2) ∧ (∀ (s : Shared) (u : Value), BindsTo s fd ⟨[u], []⟩ [(x, u)]) ∧
        (∀ (H : Hp) (a : Addr) (ns : List Int), ns.length ≤ n → (∀ z ∈ ns, Builtin.Int.intBits z ≤ 1048576) → (∀ p ∈ cs, H p.2 = some (.tbl #[])) → SqL K H a (ns.map V.int) → sp [.ref a] H (fun v _ => v = .bl true) fun _ _ _ => False) ∧
        ∀ b : Heap, K.In b → b.Ns mainGlobals mg → (∀ p ∈ cs, LamX.TabB b mg p.1 p.2) → FnOkG l.prog w K mg b CX0 k fa fd [x] sp) :
    PySem.W.WalkO q loose XP YP l.row.toRowW d [] (fun f vs => PySem.call f vs) := by
  refine Att.attach_callB hn hdf ?_
  intro w s₀ s₁ mg mb fa o pm cd doc a vs ns G Y ho hd hcd hmg hobj hints hlen hbits hg
  obtain ⟨K, fd, cs, sp, KX, hT, nT, C, hb, hsp, hF⟩ := F w mg fa _ Y G.T.g hmg
  exact FnOkG.law KX G.T.g G.T.b G.T.builtins G.T.nolimit hg hT nT C G.T.bmain hobj hints (Nat.le_trans hlen hn2) hr hF hb (fun H hH hS => hsp H a ns hlen hbits hH hS) fun _ _ _ z => z
end Lm

namespace Lm
open PySem PySem.Spec PyProof.Rows L2
/-! ### repr(x) of nested data without dicts, where no repr is under way -/
mutual
theorem Dp.noDict {K : PySem.W.Frag} {H : Hp} : ∀ (d : PyData) (v : V), Dp K H v d → d.hasDict = false
  | .none, _, _ => rfl
  | .bool _, _, _ => rfl
  | .int _, _, _ => rfl
  | .str _, _, _ => rfl
  | .list ds, _, h => by
    cases h with
    | lst _ ha => exact Dp.noDictAll ds _ ha
  | .tuple ds, _, h => by
    cases h with
    | tup _ ha => exact Dp.noDictAll ds _ ha
  | .dict _, _, h => by cases h
theorem Dp.noDictAll {K : PySem.W.Frag} {H : Hp} : ∀ (ds : List PyData) (vs : List V), DpAll K H vs ds → PyData.hasDictAll ds = false
  | [], _, _ => rfl
  | d :: ds, _, h => by
    cases h with
    | cons h1 h2 =>
      show (d.hasDict || PyData.hasDictAll ds) = false
      rw [Dp.noDict d _ h1, Dp.noDictAll ds _ h2]
      rfl
end
/-- what repr reads: an object whose text can be written -/
def rRepr (K : PySem.W.Frag) : List V → Hp → VK → Prop := fun xs H Q => ∃ (a : Addr) (d : PyData), xs = [.ref a] ∧ Dp K H (.ref a) d ∧ d.showable = true ∧ d.depth ≤ 50 ∧ d.shown.length ≤ sizeLine ∧ Q (.str d.shown) H
section
variable {X : Cx}
theorem cr_repr (hg : X.A.guards = some []) (hu : X.A.units + 64 < cLine) : CallR X (.builtin "repr") (rRepr X.K) := by
  intro pins s σ H xs us Q I r h
  obtain ⟨a, d, rfl, hd, hs, hdep, hsz, q⟩ := h
  rw [Vals.ref1 r]
  obtain ⟨as, rd⟩ := Dp.reads I d _ (.ref a) hd rfl
  exact PySem.repr_of_reads' rd hs (fun z => by rw [Dp.noDict d _ hd] at z; cases z) hg (by omega) (fun _ _ e => e) (fun h' u tk hk => ⟨.str d.shown, H, I.kept hk, ⟨u, rfl⟩, q⟩) hsz
end
end Lm

namespace Lm
open PySem PySem.Spec PyProof.Rows L2
/-! ### how long the text of nested data is -/
structure ShOk (d : PyData) (k m : Nat) : Prop where
  s : d.showable = true
  dep : d.depth ≤ k
  lv : d.leavesShort 100 = true
  w : d.weight ≤ m
theorem ShOk.mono {d : PyData} {k m k' m' : Nat} (h : ShOk d k m) (hk : k ≤ k') (hm : m ≤ m') : ShOk d k' m' := ⟨h.s, Nat.le_trans h.dep hk, h.lv, Nat.le_trans h.w hm⟩
theorem ShOk.fit {d : PyData} {k m : Nat} (h : ShOk d k m) (hm : m ≤ 160000) : d.shown.length ≤ sizeLine := by
  have q := PyData.shown_le 100 (by decide) d h.lv
  have hw := h.w
  have e : sizeLine = 16777216 := by decide
  have : (100 + 2) * d.weight ≤ 102 * 160000 := Nat.mul_le_mul_left _ (Nat.le_trans hw hm)
  omega
theorem ShOk.none : ShOk .none 0 0 := ⟨rfl, Nat.le_refl _, rfl, Nat.le_refl _⟩
theorem ShOk.bool {b : Bool} : ShOk (.bool b) 0 0 := ⟨rfl, Nat.le_refl _, rfl, Nat.le_refl _⟩
theorem ShOk.int {i : Int} (h : i.natAbs < 2 ^ 64) : ShOk (.int i) 0 65 := by
  have h2 : i.natAbs.log2 < 64 := by
    rcases Nat.eq_zero_or_pos i.natAbs with z | z
    · rw [z]
      decide
    · exact (Nat.log2_lt (by omega)).mpr h
  refine ⟨decide_eq_true (show i.natAbs.log2 < 1920 by omega), Nat.le_refl _, ?_, ?_⟩
  · show decide ((PyData.shown (.int i)).length ≤ 100) = true
    have := int_text_length_le (a := i) (k := 64) (by decide) h2
    refine decide_eq_true ?_
    show (Str.ofString (toString i)).length ≤ 100
    rw [PySem.ofString_length]
    omega
  · show (if (i == 0) = true then 0 else i.natAbs.log2 + 1) ≤ 65
    split
    · omega
    · omega
theorem ShOk.str {x : Str} (h : (x.cps.toList.all fun c => decide (c < 16 ^ 8)) = true) : ShOk (.str x) 0 x.cps.size := ⟨rfl, Nat.le_refl _, h, Nat.le_refl _⟩
theorem ShOk.all {k m : Nat} : ∀ {ds : List PyData}, (∀ d ∈ ds, ShOk d k m) → PyData.showableAll ds = true ∧ PyData.depthAll ds ≤ k ∧ PyData.leavesShortAll 100 ds = true ∧ PyData.weightAll ds ≤ ds.length * (m + 1)
  | [], _ => ⟨rfl, Nat.zero_le _, rfl, Nat.zero_le _⟩
  | d :: r, h => by
    obtain ⟨a, b, c, e⟩ := ShOk.all (ds := r) fun x hx => h x (List.mem_cons_of_mem _ hx)
    have q := h d List.mem_cons_self
    refine ⟨?_, ?_, ?_, ?_⟩
    · show (d.showable && PyData.showableAll r) = true
      rw [q.s, a]
      rfl
    · show max d.depth (PyData.depthAll r) ≤ k
      have := q.dep
      omega
    · show (d.leavesShort 100 && PyData.leavesShortAll 100 r) = true
      rw [q.lv, c]
      rfl
    · show d.weight + 1 + PyData.weightAll r ≤ (r.length + 1) * (m + 1)
      have := q.w
      rw [Nat.add_mul]
      omega
theorem ShOk.seq {k m : Nat} {ds : List PyData} (b : Bool) (h : ∀ d ∈ ds, ShOk d k m) : ShOk (if b = true then .list ds else .tuple ds) (k + 1) (ds.length * (m + 1)) := by
  obtain ⟨h1, h2, h3, h4⟩ := ShOk.all h
  cases b
  · exact ⟨h1, Nat.succ_le_succ h2, h3, h4⟩
  · exact ⟨h1, Nat.succ_le_succ h2, h3, h4⟩
theorem Dp.seq {K : PySem.W.Frag} {H : Hp} {a : Addr} {xs : List V} {ds : List PyData} (b : Bool) (h : if b = true then H a = some (.lst xs) else H a = some (.tup xs)) (hd : DpAll K H xs ds) : Dp K H (.ref a) (if b = true then .list ds else .tuple ds) := by
  cases b
  · exact .tup (.inl (.inl h)) hd
  · exact .lst (.inl (.inl h)) hd
end Lm

namespace Lm
open PySem PySem.Spec PyProof.Rows L2
/-! ### repr of a row whose things may be flat dicts, too -/
def flD : V → Option PyData
  | .non => some .none
  | .bl b => some (.bool b)
  | .int i => some (.int i)
  | .str x => some (.str x)
  | _ => none
def keyD : Key → PyData
  | .inl i => .int i
  | .inr x => .str x
/-- a dict with flat values, read -/
inductive DkFl : List (Key × V) → List (PyData × PyData) → Prop
  | nil : DkFl [] []
  | cons {k : Key} {v : V} {d : PyData} {l : List (Key × V)} {m : List (PyData × PyData)} : flD v = some d → DkFl l m → DkFl ((k, v) :: l) ((keyD k, d) :: m)
/-- a thing: nested data without dicts, or a dict with flat values -/
def ItD (K : PySem.W.Frag) (H : Hp) (v : V) (d : PyData) : Prop := Dp K H v d ∨ ∃ a kvs m, v = .ref a ∧ H a = some (.dK kvs) ∧ DkFl kvs m ∧ d = .dict m
theorem flD_reads {h : Heap} {v : V} {u : Value} {d : PyData} (e : flD v = some d) (r : RelV v u) : Reads h u d [] := by
  cases v with
  | non => cases e; cases r; exact .none
  | bl b => cases e; cases r; exact .bool b
  | int i => cases e; obtain ⟨t, rfl⟩ := r; exact .int i t
  | str x => cases e; obtain ⟨t, rfl⟩ := r; exact .str x t
  | _ => cases e
theorem dkFl_reads {P : Program} {w : World} {h : Heap} : ∀ {kvs : List (Key × V)} {m : List (PyData × PyData)} {vs : List (Key × Value)} {es : List DictEntry}, DkFl kvs m → KV kvs vs → Pairs (mixKind P w) es vs →
    ReadsAll h (es.map (·.key)) (m.map (·.1)) [] ∧ ReadsAll h (es.map (·.val)) (m.map (·.2)) []
  | _, _, _, _, .nil, .nil, .nil => ⟨.nil, .nil⟩
  | _, _, _, _, .cons (k := k) e f, .cons ⟨q1, q2⟩ t, .cons (e := en) a b c => by
    obtain ⟨r1, r2⟩ := dkFl_reads (h := h) f t c
    have kr : Reads h en.key (keyD k) [] := by
      rcases keyIs_shape a with ⟨i, t, h1, h2⟩ | ⟨x, t, h1, h2⟩
      · rw [h2, show k = Sum.inl i from (show k = _ from q1).trans h1]
        exact .int i t
      · rw [h2, show k = Sum.inr x from (show k = _ from q1).trans h1]
        exact .str x t
    have vr := flD_reads (h := h) (u := en.val) e (by rw [b]; exact q2)
    exact ⟨.cons kr r1, .cons vr r2⟩
theorem ItD.reads {X : Cx} {pins : List (Addr × Obj)} {σ : L2.St} {H : Hp} {s : Shared} (I : Inv X pins σ H s) {v : V} {d : PyData} {u : Value} (h : ItD X.K H v d) (r : RelV v u) : ∃ as, Reads s.heap u d as ∧ (d.hasDict = true → sysModules ∉ as) := by
  rcases h with h | ⟨a, kvs, m, rfl, ha, hf, rfl⟩
  · obtain ⟨as, q⟩ := Dp.reads I d _ u h r
    exact ⟨as, q, fun z => by rw [Dp.noDict d _ h] at z; cases z⟩
  · cases r
    obtain ⟨_, hs, vs, hkv, o, es, ep, g1, g2, g3, _, g5, _⟩ := dk_of I.hok ha
    obtain ⟨r1, r2⟩ := dkFl_reads (h := s.heap) hf hkv g5
    exact ⟨_, Reads.dict g1 g2.1 g3 r1 r2, fun _ z => by
      have z : sysModules ∈ [a] := z
      rw [List.mem_singleton] at z
      rw [z] at hs
      simp at hs⟩
/-- all things of a row, for repr -/
theorem row_reprK {X : Cx} {pins : List (Addr × Obj)} {σ : L2.St} {H : Hp} {s : Shared} (I : Inv X pins σ H s) : ∀ {xs : List V} {ds : List PyData} {us : List Value}, Paired (fun x d => ItD X.K H x d) xs ds → Vals xs us → PyData.showableAll ds = true → (∀ t ∈ PyData.shownAll ds, t.length ≤ sizeLine) →
    ∃ as bs, ReadsAll s.heap us ds as ∧ ReadAtMost s.heap (PyData.depthAll ds) bs ∧ ReprAllK X.prog X.w bs s.heap (PyData.depthAll ds) us (PyData.shownAll ds)
  | _, _, _, .nil, .nil, _, _ => ⟨[], [], .nil, (fun _ h => nomatch h), .nil⟩
  | _ :: _, d :: ds, _ :: _, .cons h1 h2, .cons r1 r2, hs, hz => by
    have hs' : d.showable = true ∧ PyData.showableAll ds = true := by simpa [PyData.showableAll] using hs
    obtain ⟨a1, q1, q2⟩ := ItD.reads I h1 r1
    obtain ⟨b1, m1, k1⟩ := ReprK.of_reads (prog := X.prog) (w := X.w) q1 hs'.1 q2 (hz _ (by simp only [PyData.shownAll]; exact List.mem_cons_self ..))
    obtain ⟨a2, b2, q3, m2, k2⟩ := row_reprK I h2 r2 hs'.2 fun t ht => hz t (by simp only [PyData.shownAll]; exact List.mem_cons_of_mem _ ht)
    refine ⟨_, b1 ++ b2, .cons q1 q3, ?_, ?_⟩
    · intro b hm
      rcases List.mem_append.mp hm with hm | hm
      · exact (m1.mono (Nat.le_max_left _ _)) b hm
      · exact (m2.mono (Nat.le_max_right _ _)) b hm
    · exact .cons ((k1.more fun b hb => List.mem_append_left _ hb).level_le (Nat.le_max_left _ _)) (k2.more_le (fun b hb => List.mem_append_right _ hb) (Nat.le_max_right _ _))
def seqD' (b : Bool) (ds : List PyData) : PyData := if b = true then .list ds else .tuple ds
/-- what repr reads of a row: a list or a tuple of things -/
def rReprI (K : PySem.W.Frag) : List V → Hp → VK → Prop := fun xs H Q => ∃ (a : Addr) (b : Bool) (ys : List V) (ds : List PyData), xs = [.ref a] ∧ (if b = true then H a = some (.lst ys) else H a = some (.tup ys)) ∧ Paired (fun x d => ItD K H x d) ys ds ∧ (seqD' b ds).showable = true ∧ (seqD' b ds).depth ≤ 50 ∧ (seqD' b ds).shown.length ≤ sizeLine ∧ Q (.str (seqD' b ds).shown) H
section
variable {X : Cx}
theorem cr_reprI (hg : X.A.guards = some []) (hu : X.A.units + 64 < cLine) : CallR X (.builtin "repr") (rReprI X.K) := by
  intro pins s σ H xs us Q I r h
  obtain ⟨a, b, ys, ds, rfl, ha, hp, hs, hdep, hsz, q⟩ := h
  rw [Vals.ref1 r]
  have fin : ∀ (h' : Heap) (u tk : Tok), (∀ b o, s.heap.get? b = some o → h'.get? b = some o) → EP X pins σ Q (.str (seqD' b ds).shown u) { s with heap := h', toks := tk } := fun h' u tk hk => ⟨.str (seqD' b ds).shown, H, I.kept hk, ⟨u, rfl⟩, q⟩
  cases b with
  | true =>
    have ha : H a = some (.lst ys) := ha
    obtain ⟨its, rv, ⟨o, n, ho, hc, _, hd⟩, _⟩ := I.list (SqL.of ha)
    have hsz' : (listText (PyData.shownAll ds)).length ≤ sizeLine := hsz
    have hs' : PyData.showableAll ds = true := hs
    obtain ⟨as, bs, q1, q2, q3⟩ := row_reprK I hp rv hs' fun t ht => Nat.le_trans (listText_mem_le ht) hsz'
    have hna : a ∉ bs := not_mem_of_deeper (Reads.list ho hc hd q1) (by show _ < PyData.depthAll ds + 1; omega) q2
    have hdep' : PyData.depthAll ds + 1 ≤ 50 := hdep
    refine call_repr_slot (by omega) ⟨o, ho, hc⟩ F.slot_list_repr.toG ?_
    cases its with
    | nil =>
      cases q1
      exact call_list_repr_empty ⟨o, ho, hc⟩ ho hd ⟨_, _, rfl, fin s.heap _ _ fun _ _ e => e⟩
    | cons x l => exact call_list_reprK ho hc hd hna (by simpa using q3.length_eq) (fun i y e => q3.item i y (by simpa using e)) (show X.A.in1.guards = some [] from hg) (fun b _ => Clear.nil b) (by show X.A.units + 1 + _ < _; omega) (fun _ _ e => e) (fun h' u tk hk => ⟨_, _, rfl, fin h' u tk hk⟩) hsz'
  | false =>
    have ha : H a = some (.tup ys) := ha
    obtain ⟨its, rv, ⟨o, ho, hc, n, hd⟩, _⟩ := I.tuple (SqT.of ha)
    have hsz' : (tupleText (PyData.shownAll ds)).length ≤ sizeLine := hsz
    have hs' : PyData.showableAll ds = true := hs
    obtain ⟨as, bs, q1, q2, q3⟩ := row_reprK I hp rv hs' fun t ht => Nat.le_trans (tupleText_mem_le ht) hsz'
    have hna : a ∉ bs := not_mem_of_deeper (Reads.tuple ho hc hd q1) (by show _ < PyData.depthAll ds + 1; omega) q2
    have hdep' : PyData.depthAll ds + 1 ≤ 50 := hdep
    refine call_repr_slot (by omega) ⟨o, ho, hc⟩ F.slot_tuple_repr ?_
    exact call_tuple_reprK ho hc hd hna q3 (show X.A.in1.guards = some [] from hg) (fun b _ => Clear.nil b) (by show X.A.units + 1 + _ < _; omega) (fun _ _ e => e) (fun h' u tk hk => ⟨_, _, rfl, fin h' u tk hk⟩) hsz'
end
end Lm

namespace Lm
open PySem PySem.Spec PyProof.Rows L2 PySem.SeqAt
/-! ### a text in a list of things of any kind -/
def OddV (H : Hp) (v : V) : Prop := flatV v = true ∨ ∃ a, v = .ref a ∧ ((∃ ys, H a = some (.lst ys)) ∨ (∃ ys, H a = some (.tup ys)) ∨ ∃ ks, H a = some (.dK ks))
section
variable {A : Around} {s : Shared}
theorem dict_eq_declines_str {prog : Program} {w : World} {E : Value → Shared → Prop} {a : Addr} (da : s.TypeIs (.ref a) "dict") (b : Str) (u : Tok) (Q' : Value → Shared → Prop) (hq : Q' .notImplemented s) :
    wpAny (model prog w) A (call (.builtin "dict.__eq__") [.ref a, .str b u]) Q' E s := by
  refine wpAny_call_entry PySem.F.slot_dict_eq da PySem.F.entry_dict_eq ?_ (PySem.F.args_dict_eq_2 _ _)
  show wpAny _ _ (Builtin.Dict.dictSlotArgs "__eq__" ⟨[.ref a, .str b u], []⟩ >>= _) _ _ s
  refine wpAny_bind ?_
  unfold Builtin.Dict.dictSlotArgs
  refine wpAny_bind (wpAny_notOrdered_dict da ?_)
  show wpAny _ _ (pure (Value.ref a, Value.str b u)) _ _ s
  refine wpAny_pure ?_
  refine wpAny_bind ?_
  show wpAny (model prog w) A.in1 (isInstance (.str b u) (.type "dict")) _ _ s
  have f1 := PySem.F.sub_str_dict
  obtain ⟨hp, g, d, tk, os⟩ := s
  wp_walk
  exact ⟨_, rfl, hq⟩
theorem str_eq_declines_any (b : Str) (u : Tok) (l : Addr) {c : Value} {es : Array DictEntry} {ep : Nat} {dd : Option Addr} {sl : Array (Option Value)} :
    Meets (Builtin.«str.__eq__» ⟨[.str b u, .ref l], []⟩) (fun _ R s => s.heap.get? l = some { cls := c, dict := dd, data := .dict es ep, slots := sl } ∧ R (.ok (.ret .notImplemented)) s) :=
  .of_wp fun prog w A R s h => by obtain ⟨hp, g, d, tk, os⟩ := s; obtain ⟨hl, h⟩ := h; wp_walk using AutoSeq1.wpAny_loadPart' hl, wpAny_load hl; exact ⟨_, rfl, h⟩
theorem rc_dict_str {a : Addr} {o : Obj} {es : Array DictEntry} {ep : Nat} (ho : s.heap.get? a = some o) (hc : o.cls = .type "dict") (hd : o.data = .dict es ep) (b : Str) (u : Tok) (hu : A.units < cLine) : RcAt A s (.ref a) (.str b u) false := fun prog w E Q h => by
  obtain ⟨cls, dd, data, sl⟩ := o
  simp only at hc hd
  subst hc hd
  exact rc_eq_decline_or (k := false) ⟨_, ho, rfl⟩ (typeIs_str s b u) (by decide) PySem.F.sub_str_dict PySem.F.slot_dict_eq PySem.F.slot_str_eq_refl
    (fun Q' hq => dict_eq_declines_str ⟨_, ho, rfl⟩ b u Q' hq)
    (fun _ hq => call_meets PySem.F.slot_str_eq_refl (typeIs_str s b u) PySem.F.entry_str_eq (PySem.F.args_str_eq_2 _ _) (str_eq_declines_any b u a) ⟨ho, hq⟩)
    (fun _ hq => wpAny_of_eq (rfl : isSame (.ref a) (.str b u) = pure false) hq) (.inr hu) h
theorem eq_dict_str {a : Addr} {o : Obj} {es : Array DictEntry} {ep : Nat} (ho : s.heap.get? a = some o) (hc : o.cls = .type "dict") (hd : o.data = .dict es ep) (b : Str) (u : Tok) (hu : A.units < cLine) : EqAt A s (.ref a) (.str b u) false := fun prog w E Q h => by
  unfold eqBool
  refine wpAny_holding ?_
  refine wpAny_ite_split (fun hab => absurd (eq_of_beq hab) nofun) (fun _ => ?_)
  exact wpAny_bind (rc_dict_str ho hc hd b u hu prog w E _ (wpAny_truthy_bool h))
end
section
variable {X : Cx} {pins : List (Addr × Obj)} {σ : L2.St} {H : Hp} {s : Shared} {A : Around}
theorem mem_oddAt (I : Inv X pins σ H s) {x : Str} {v : Value} (rx : RelV (.str x) v) (hu : A.units < cLine) : ∀ {xs : List V} {us : List Value}, Vals xs us → (∀ y ∈ xs, OddV H y) → (∀ u ∈ us, EqAt A s u v (eqU (.str x) u)) ∧ us.any (eqU (.str x)) = xs.any fun y => eqV y (.str x)
  | _, _, .nil, _ => ⟨(fun u hu => by cases hu), rfl⟩
  | y :: xs, u :: us, .cons r t, f => by
    obtain ⟨h1, h2⟩ := mem_oddAt I rx hu t fun y hy => f y (List.mem_cons_of_mem _ hy)
    obtain ⟨q1, q2⟩ : EqAt A s u v (eqU (.str x) u) ∧ eqU (.str x) u = eqV y (.str x) := by
      rcases f y List.mem_cons_self with hf | ⟨a, rfl, ha⟩
      · exact ⟨by rw [eqU_of r hf]; exact eqAt_V r rx hf rfl, eqU_of r hf⟩
      · cases r
        obtain ⟨tk, rfl⟩ := rx
        refine ⟨?_, rfl⟩
        show EqAt A s (.ref a) (.str x tk) false
        rcases ha with ⟨ys, ha⟩ | ⟨ys, ha⟩ | ⟨ks, ha⟩
        · obtain ⟨its, r, pl, hz⟩ := I.list (.inl (.inl ha))
          exact EqAt.list_str x tk pl.isList hu
        · obtain ⟨its, r, pl, hz⟩ := I.tuple (.inl (.inl ha))
          exact EqAt.tuple_str x tk pl hu
        · obtain ⟨_, hs, vs, hkv, o, es, ep, g1, g2, g3, _, g5, _⟩ := dk_of I.hok ha
          exact eq_dict_str g1 g2.1 g3 x tk hu
    refine ⟨fun u' hu' => ?_, by rw [List.any_cons, List.any_cons, q2, h2]⟩
    rcases List.mem_cons.mp hu' with rfl | hu'
    · exact q1
    · exact h1 u' hu'
end
theorem eqV_str (y : V) (x : Str) : eqV y (.str x) = decide (y = .str x) := by
  cases y with
  | str z =>
    show (z == x) = _
    rw [Bool.eq_iff_iff]
    simp
  | _ => simp [eqV]
/-- text in list -/
def rInO (K : PySem.W.Frag) : R2 := fun x y H Q => ∃ (z : Str) (a : Addr) (xs : List V), x = .str z ∧ y = .ref a ∧ SqL K H a xs ∧ (∀ v ∈ xs, OddV H v) ∧ Q (.bl (decide (V.str z ∈ xs))) H
theorem op_inO {X : Cx} (hu : X.A.units + 64 < cLine) : OpR X (compareOp .In) (rInO X.K) := by
  intro pins s σ H x y v u Q I rx ry h
  obtain ⟨z, a, xs, rfl, rfl, hq, hf, q⟩ := h
  cases ry
  obtain ⟨its, r, pl, hz⟩ := I.list hq
  obtain ⟨h1, h2⟩ := mem_oddAt (A := X.A.in1) I rx (by show X.A.units + 1 < cLine; omega) r hf
  refine SeqAt.in_listAt (eqU (.str z)) pl.isList (fun w hw => h1 w (by simpa using hw)) ⟨.bl _, H, I, rfl, ?_⟩
  rw [show its.toArray.any (eqU (.str z)) = its.any (eqU (.str z)) by simp, h2]
  have e : (xs.any fun y => eqV y (.str z)) = decide (V.str z ∈ xs) := by
    simp only [eqV_str]
    rw [Bool.eq_iff_iff]
    simp
  rw [e]
  exact q
end Lm

namespace Lm
open PySem PySem.Spec PyProof.Rows L2
/-- a def that calls repr and makes lambdas -/
theorem okCG {P : Program} {w : World} {K : PySem.W.Frag} {mg : Str → Option Value} {base : Heap} {x qual : Str} {st : Stmt} {f c : Addr} {fd : FuncData} {N ps : List Str} {k : Nat} {sp : Sp} (F : L2.Fun K x qual st f fd) (hc : fd.code = Value.ref c) (S : FnScope N ps (defScope st)) (len : ∀ vs H Q E, sp vs H Q E → vs.length = ps.length)
    (hbody : ∀ (A : Around), A.guards = some [] → ∀ (outer : List Env) (s : Shared) (H : Hp) (vs : List V) (Q : VK) (E : XK), Room k (A.deeper (envOfC qual (defScope st) s.heap.objs.size f (.ref c))) → sp vs H Q E →
      ∃ t, PSs (cxOf CX0 P w K mg base N qual (defScope st) f (.ref c) A outer s H E).nox (defBody st) t ∧ t { nx := fun _ H' => Q .non H', rt := Q } (L2.start N vs) H) : FnOkG P w K mg base CX0 (k + 1) f fd ps sp := by
  obtain ⟨oc, od, kV, doc, pm, an, cdv, ct, osl, rfl, lk, hcd⟩ := F.ex
  have e : cdv = .ref c := hc
  subst e
  refine .of_def lk hcd S len fun A hg outer s H vs Q E hr hsp => ?_
  obtain ⟨t, h, q⟩ := hbody A hg outer s H vs Q E hr hsp
  exact ⟨t, h.nox, q⟩
/-- what the end asks of a law that calls repr and makes lambdas -/
def LawAtG (l : PySem.W.OpenLaw) (w : World) (K : PySem.W.Frag) (k n : Nat) (x : Str) (mg : Str → Option Value) (fa : Addr) (h : Heap) : Prop :=
  ∃ (fd : FuncData) (cs : List (Addr × Addr)) (sp : Sp), (∀ p ∈ cs, h.get? p.2 = some { cls := .none, data := .fields #[] }) ∧ (∀ p ∈ cs, K.lookup p.2 = none) ∧ (∀ p ∈ cs, PySem.W.CodeHd h p.1 p.2) ∧ (∀ (s : Shared) (u : Value), BindsTo s fd ⟨[u], []⟩ [(x, u)]) ∧
    (∀ (H : Hp) (a : Addr) (ns : List Int), ns.length ≤ n → (∀ z ∈ ns, Builtin.Int.intBits z ≤ 1048576) → (∀ p ∈ cs, H p.2 = some (.tbl #[])) → SqL K H a (ns.map V.int) → sp [.ref a] H (fun v _ => v = .bl true) fun _ _ _ => False) ∧
    ∀ b : Heap, K.In b → b.Ns mainGlobals mg → (∀ p ∈ cs, LamX.TabB b mg p.1 p.2) → FnOkG l.prog w K mg b CX0 k fa fd [x] sp
theorem walk_ofG {l : PySem.W.OpenLaw} {n k : Nat} {q : Program} {loose : List Str} {XP : (Str → Option Value) → Heap → Prop} {YP : World → Heap → Prop} {d : DefRec} {K : Params → PySem.W.Frag} {x : Str}
    (hn : l.most = some n) (hn2 : n ≤ sizeLine) (hdf : d.params.defaults = []) (hr : Room k callerA) (hY : ∀ (w : World) (h : Heap), YP w h → (K w.params).In h)
    (F : ∀ (w : World) (mg : Str → Option Value) (fa : Addr) (h : Heap), YP w h → (K w.params).In h → h.Ns mainGlobals mg → mg d.name = some (.ref fa) → LawAtG l w (K w.params) k n x mg fa h) :
    PySem.W.WalkO q loose XP YP l.row.toRowW d [] (fun f vs => PySem.call f vs) :=
  walkG hn hn2 hdf hr fun w mg fa h Y G hm => by
    obtain ⟨fd, cs, sp, hT, nT, C, hb, hsp, hF⟩ := F w mg fa h Y (hY w h Y) G hm
    exact ⟨K w.params, fd, cs, sp, hY w h Y, hT, nT, C, hb, hsp, hF⟩
end Lm

namespace Lm
open PySem L2 LamX NdefX PySem.Spec PyProof.Rows
/-! ### a def within a def, handed to another def that calls it -/
theorem CellsAt.un {cl : List (Str × Addr)} {fr : List Str} {ws : List (Option V)} {h h1 : Heap} {H H1 : Hp} {fs : List Addr} (C : CellsAt cl fr ws h H) (un : Un fs [] H H1 h h1) : CellsAt cl fr ws h1 H1 := by
  have kp : ∀ y c, cl.lookup y = some c → ∀ v, h.IsCell c v → h1.IsCell c v := fun y c e v ⟨o, ho, hd⟩ => by
    obtain ⟨sl, q⟩ := un.any ho (C.all y c e).1 (by simp)
    exact ⟨_, q, hd⟩
  refine ⟨C.len, fun y c e => ?_, C.inj, fun i y e => ?_⟩
  · obtain ⟨n, v, z⟩ := C.all y c e
    obtain ⟨o, ho, hd⟩ := id z
    exact ⟨un.free c o ho n (by simp), v, kp y c e v z⟩
  · obtain ⟨c, hc, hv⟩ := C.has i y e
    refine ⟨c, hc, fun v ev => ?_⟩
    obtain ⟨u, r, z⟩ := hv v ev
    exact ⟨u, r, kp y c hc _ z⟩
/-- f(..), f a parameter that holds the function F made by a caller; ws: what its cells hold -/
def tCallH (F : NF) (f : Addr) (ws : List (Option V)) (i : Nat) (sp : List (Option V) → Sp) (E : XK) (t : TA) : TE := fun σ H Q => σ[i]? = some (some (.ref f)) ∧ H f = some (FnO f F) ∧
  t σ H fun vs H1 => H1 f = some (FnO f F) ∧ H1 F.c = some (CodeO F.c F.qual) ∧ sp ws vs H1 Q E
theorem pe_callh {Z : Cx} {CX : CXT} {F : NF} {ps fr : List Str} {ws : List (Option V)} {i k : Nat} {x : Str} {f : Addr} {sp : List (Option V) → Sp} {E : XK} {t : TA} {e : Expr} {es : List Expr} {p pos : Pos}
    (Fn : NOk Z.prog Z.w Z.K Z.mg Z.base CX k f F ps fr sp) (C : ∀ pins σ H s, Inv Z pins σ H s → CellsAt F.cl fr ws s.heap H) (hr : Room k Z.A) (hx : Passes CX Z E) (hN : Z.N[i]? = some x) (hv : Vis Z.env.scope x) (ha : PA Z (e :: es) t)
    (hd : (x == ("__debug__" : Str)) = false := by decide) (hcd : (x == ("__classdict__" : Str)) = false := by decide)
    (he : starEach (e :: es) Z.env = (false, eval e Z.env) :: starEach es Z.env := by rfl) (hpl : (backTo pos (starEach es Z.env)).any (·.1) = false := by rfl) :
    PE Z (.Call (.Name x p) (e :: es) [] pos) (tCallH F f ws i sp E t) := by
  refine ⟨fun pins s σ H Q I h => ?_⟩
  obtain ⟨hs, hf, ht⟩ := h
  refine wpAny_Call_Name_kw (thn ((pe_var (pos := p) hN hv hd hcd).run pins s σ H (fun v H1 => v = .ref f ∧ H1 = H) I ⟨.ref f, hs, rfl, rfl⟩) fun u s1 ⟨v, H1, I1, r1, q1⟩ => ?_)
  obtain ⟨ev, eH⟩ := q1
  subst ev
  rw [eH] at I1
  obtain rfl : u = Value.ref f := r1
  refine PySem.W.callWith_F (first := []) (fnAt_of I1 hf) (thn (ha.run pos pins s1 σ H _ I1 ht) fun us s2 ⟨vs, H2, I2, r, h1, h2, q⟩ => ⟨fnAt_of I2 h1, ?_⟩) he hpl
  show wpAny _ _ (call (.ref f) us) _ _ _
  refine wpAny_call (codeAny_mono (Fn.run Z.A Z.stack s2 H2 us vs _ Q E hr I2.env0 h1 h2 (C _ _ _ _ I2) r q) fun r s' hq => ?_)
  cases r with
  | error e => exact hx pins σ H2 s2 e s' I2 hq
  | ok fl =>
    cases fl with
    | ret u => exact I2.after hq
    | next => exact False.elim hq
    | brk => exact False.elim hq
    | cont => exact False.elim hq
/-- x(e, g), g a function that was made here -/
def tHand (mk : Addr → NF) (js : List Nat) (t : TA) (TT : Addr → Addr → List (Option V) → V → Hp → VK → Prop) : TE := fun σ H Q => t σ H fun vs H1 => ∃ v f c', vs = [v, .ref f] ∧ H1 f = some (FnO f (mk c')) ∧ TT f c' (js.map (slotAt σ)) v H1 Q
/-- the def that got a thing and a function -/
def GivesN (X : Cx) (Ng : List Str) (x : Str) (sg : Scope) (g : Addr) (cdg : Value) (bg : List Stmt) (mk : Addr → NF) (fr : List Str) (k : Nat) (TT : Addr → Addr → List (Option V) → V → Hp → VK → Prop) : Prop :=
  ∀ (f c' : Addr) (ws : List (Option V)) (v : V) (s : Shared) (H : Hp) (Q : VK), Room k (X.A.deeper (envOfC x sg s.heap.objs.size g cdg)) → (∀ pins σ H' s', Inv (cxOf C8.CX0 X.prog X.w X.K X.mg X.base Ng x sg g cdg X.A X.stack s H C8.E0).nox pins σ H' s' → CellsAt (mk c').cl fr ws s'.heap H') →
    H f = some (FnO f (mk c')) → TT f c' ws v H Q → ∃ t, PSs (cxOf C8.CX0 X.prog X.w X.K X.mg X.base Ng x sg g cdg X.A X.stack s H C8.E0).nox bg t ∧ t { nx := fun _ H' => Q .non H', rt := Q } (L2.start Ng [v, .ref f]) H
theorem pe_hand {X : Cx} {mk : Addr → NF} {cl : List (Str × Addr)} {fr : List Str} {js : List Nat} {TT : Addr → Addr → List (Option V) → V → Hp → VK → Prop} {x a1 a2 : Str} {g : Addr} {k : Nat} {pg : Arguments} {bg : List Stmt} {sg : Scope} {dV kV doc pm cdv ct oc : Value} {an od : Option Addr} {osl : Array (Option Value)} {Ng : List Str} {e1 e2 : Expr} {t : TA} {p pos : Pos}
    (hg : Gl X x) (hm : X.mg x = some (.ref g)) (hk : PySem.W.keepIn X.K (.ref g) = true) (lk : X.K.lookup g = some ⟨oc, od, .func (PySem.W.fnOf x x pg bg sg dV kV doc pm an cdv ct), osl⟩) (hcg : PySem.W.codeIn X.K cdv x = true)
    (hb : L2.Binds X.K (PySem.W.fnOf x x pg bg sg dV kV doc pm an cdv ct) [a1, a2] []) (Sg : FnScope Ng [a1, a2] sg) (hG : GivesN X Ng x sg g cdv bg mk fr k TT) (hcl : ∀ c', (mk c').cl = cl) (cp : X.Ok → Caps X cl fr js) (hr : Room (k + 1) X.A) (ha : PA X [e1, e2] t)
    (hdb : (x == ("__debug__" : Str)) = false := by decide) (hst : starEach [e1, e2] X.env = (false, eval e1 X.env) :: starEach [e2] X.env := by rfl) (hpl : (backTo pos (starEach [e2] X.env)).any (·.1) = false := by rfl) :
    PE X (.Call (.Name x p) [e1, e2] [] pos) (tHand mk js t TT) := by
  refine ⟨fun pins s σ H Q I h => ?_⟩
  refine wpAny_Call_Name_kw (ld_glob I hg hm ?_ hdb)
  refine PySem.W.callWith_K (h₀ := X.base) I.ok.mod.kin hk (thn (ha.run pos pins s σ H _ I h) fun us s1 ⟨vs, H1, I1, r, v, f, c', evs, hf, ht⟩ => ⟨I1.kIn, ?_⟩) hst hpl
  subst evs
  have rc : codeAny (model X.prog X.w) X.A (.call (.ref g) ⟨us, []⟩) (CR C8.CX0 X.stack X.prog X.w H1 s1 Q C8.E0) s1 := by
    refine run_ofS (N := Ng) (ps := [a1, a2]) (us := us) (vs := [v, .ref f]) lk hcg Sg hr I1.env0 (by
      have q := hb s1 us I1.kIn (by rw [List.append_nil, ← r.length]; rfl)
      rw [List.append_nil] at q
      exact q) r rfl fun hr' => ?_
    have C0 := cells_of I1 (cp I1.ok)
    obtain ⟨t', ht', hq'⟩ := hG f c' (js.map (slotAt σ)) v s1 H1 Q hr' (fun pins2 σ2 H2 s2 I2 => by rw [hcl]; exact CellsAt.un C0 I2.base) hf ht
    exact ⟨t', ht'.nox, hq'⟩
  refine wpAny_call (codeAny_mono rc fun r s2 hq => ?_)
  cases r with
  | error e => exact (show False from hq).elim
  | ok fl =>
    cases fl with
    | ret u => exact I1.after hq
    | next => exact False.elim hq
    | brk => exact False.elim hq
    | cont => exact False.elim hq
end Lm

namespace Lm
open PySem L2
/-! ### a list of anything against [] -/
def rNeE (K : PySem.W.Frag) : R2 := fun x y H Q => ∃ a b xs, x = .ref a ∧ y = .ref b ∧ SqL K H a xs ∧ SqL K H b [] ∧ Q (.bl (!decide (xs = []))) H
theorem op_neE {X : Cx} (hu : X.A.units + 64 < PySem.cLine) : OpR X (compareOp .NotEq) (rNeE X.K) := by
  intro pins s σ H x y v u Q I rx ry h
  obtain ⟨a, b, xs, rfl, rfl, ha, hb, q⟩ := h
  cases (show v = Value.ref a from rx)
  cases (show u = Value.ref b from ry)
  obtain ⟨us, r1, p1, _⟩ := I.list ha
  obtain ⟨ws, r2, p2, _⟩ := I.list hb
  have hw : ws = [] := List.length_eq_zero_iff.mp r2.length.symm
  subst hw
  by_cases hx : xs = []
  · subst hx
    have hu' : us = [] := List.length_eq_zero_iff.mp r1.length.symm
    subst hu'
    refine PySem.SeqAt.RcNeAt.lists (e := fun _ => true) p1.isList p2.isList rfl (by omega) (fun j h1 h2 => (Nat.not_lt_zero _ h1).elim) _ _ _ _ ?_
    exact ⟨.bl false, H, I, rfl, q⟩
  · have hl : us.length ≠ 0 := fun z => hx (List.length_eq_zero_iff.mp (by rw [r1.length]; exact z))
    refine PySem.SeqAt.RcNeAt.lists_lengths p1.isList p2.isList ?_ (by omega) _ _ _ _ ?_
    · rw [bne_iff_ne]
      simpa using hl
    · refine ⟨.bl true, H, I, rfl, ?_⟩
      rw [decide_eq_false hx] at q
      exact q
end Lm

namespace Lm
open PySem L2
/-! ### a list of anything == [] -/
def rEqE (K : PySem.W.Frag) : R2 := fun x y H Q => ∃ a b xs, x = .ref a ∧ y = .ref b ∧ SqL K H a xs ∧ SqL K H b [] ∧ Q (.bl (decide (xs = []))) H
theorem op_eqE {X : Cx} (hu : X.A.units + 64 < PySem.cLine) : OpR X (compareOp .Eq) (rEqE X.K) := by
  intro pins s σ H x y v u Q I rx ry h
  obtain ⟨a, b, xs, rfl, rfl, ha, hb, q⟩ := h
  cases (show v = Value.ref a from rx)
  cases (show u = Value.ref b from ry)
  obtain ⟨us, r1, p1, _⟩ := I.list ha
  obtain ⟨ws, r2, p2, _⟩ := I.list hb
  have hw : ws = [] := List.length_eq_zero_iff.mp r2.length.symm
  subst hw
  by_cases hx : xs = []
  · subst hx
    have hu' : us = [] := List.length_eq_zero_iff.mp r1.length.symm
    subst hu'
    refine PySem.SeqAt.RcAt.lists (e := fun _ => true) p1.isList p2.isList rfl (by omega) (fun j h1 h2 => (Nat.not_lt_zero _ h1).elim) _ _ _ _ ?_
    exact ⟨.bl true, H, I, rfl, q⟩
  · have hl : us.length ≠ 0 := fun z => hx (List.length_eq_zero_iff.mp (by rw [r1.length]; exact z))
    refine PySem.SeqAt.RcAt.lists_lengths p1.isList p2.isList ?_ (by omega) _ _ _ _ ?_
    · rw [bne_iff_ne]
      simpa using hl
    · refine ⟨.bl false, H, I, rfl, ?_⟩
      rw [decide_eq_false hx] at q
      exact q
theorem ev_eqE {K : PySem.W.Frag} {σ : L2.St} {H : Hp} {ta : TE} {p : Addr} {xs : List V} (h : Evl.Ev ta σ H (.ref p)) (hp : H p = some (.lst xs)) : Evl.Ev (tOp (rEqE K) ta (tLst tNil)) σ H (.bl (decide (xs = []))) := fun H1 e Q q =>
  h H1 e _ fun H2 e2 => (Evl.el_lst Evl.ea_nil (by decide) : Evl.EvL (tLst tNil) σ H []) H2 (Evl.Ex.trans e e2) _ fun p' H3 _ e3 hp' => ⟨p, p', xs, rfl, rfl, .inl (.inl (Evl.Ex.trans e (Evl.Ex.trans e2 e3) _ _ hp)), .inl (.inl hp'), q H3 (Evl.Ex.trans e2 e3)⟩
end Lm

namespace Lm
open PySem L2
def top (i : Nat) : Stmt := PySem.Challenge.pw_leafmarks_k05_editions_refused.main.body.getD i (.Pass ⟨0, 0, 0, 0⟩)
end Lm

namespace Lm
open PySem L2
/-- what the walk asks of the built-in names -/
structure Blt (mg : Str → Option Value) : Prop where
  b_len : mg "len" = none
  b_int : mg "int" = none
  b_range : mg "range" = none
  b_enumerate : mg "enumerate" = none
  b_isinstance : mg "isinstance" = none
  b_list : mg "list" = none
  b_tuple : mg "tuple" = none
  b_str : mg "str" = none
  b_bool : mg "bool" = none
  b_all : mg "all" = none
  b_max : mg "max" = none
  b_zip : mg "zip" = none
section
variable {P : Program} {w : World} {K : PySem.W.Frag} {mg : Str → Option Value} {base : Heap} {f : Addr} {fd : FuncData}
def spFresh (K : PySem.W.Frag) : Sp := fun vs H Q _ => ∃ (a : Addr) (ns : List Int), vs = [.ref a] ∧ SqL K H a (ns.map V.int) ∧ ns.length ≤ 63 ∧ ∀ p c H', H p = none → H c = none → Same H H' → StAt H' p c → Q (.ref p) H'
abbrev s_fresh : Stmt := top 18
theorem sc_fresh : FnScope ["_law_script"] ["_law_script"] (defScope s_fresh) := ⟨rfl, rfl, rfl, by decide +kernel, rfl, by decide +kernel, by decide +kernel⟩
theorem ok_fresh (F : Fun K "_law_fresh" "_law_fresh" s_fresh f fd) (T : Blt mg) : FnOk P w K mg base CX0 1 f fd ["_law_script"] (spFresh K) := by
  refine F.ok sc_fresh (fun vs H Q E h => ?_) (fun cdv A outer s H vs Q E hr h => ?_)
  · obtain ⟨a, ns, rfl, _⟩ := h
    rfl
  · obtain ⟨a, ns, rfl, hS, hl, k⟩ := h
    refine ⟨_, (pss_one (ps_ret (pe_lst (pa_cons (pe_slice sl_list (pv 0) po_none (po_some pe_int)) (pa_cons pe_int (pa_cons pe_int (pa_cons pe_bl pa_nil))))))), ?_⟩
    have hc : cutV (ns.map V.int) none (some 63) = (ns.map V.int) := by
      have e : (ns.map V.int).length = ns.length := List.length_map ..
      unfold cutV
      rw [HT.sIx_none, show (some (63 : Int)) = some ((63 : Nat) : Int) from rfl, HT.sIx_nat, List.drop_zero, e, Nat.min_eq_right hl, Nat.sub_zero, ← e, List.take_length]
    refine ⟨_, rfl, ⟨63, rfl, a, _, rfl, hS, fun c nc => ⟨by show 4 ≤ sizeLine; decide, fun p np => ?_⟩⟩⟩
    have hpc : p ≠ c := (ne_of_none upd_same np).symm
    have np' : H p = none := by rw [← upd_ne (H := H) (o := .lst (cutV (ns.map V.int) none (some 63))) hpc]; exact np
    refine k p c _ np' nc ((Same.upd' nc).trans (Same.upd' np)) ⟨⟨0, 0, false, upd_same⟩, ⟨ns, ?_, hl⟩, hpc.symm⟩
    rw [upd_ne hpc.symm, upd_same, hc]
end
end Lm

namespace Lm
open PySem L2
theorem mem_at {xs : List V} {i : Nat} {x : V} (h : xs[i]? = some x) : x ∈ xs := List.mem_of_getElem? h
theorem fmod_bd (a : Int) {p : Int} (h : 0 < p) : 0 ≤ Int.fmod a p ∧ Int.fmod a p < p := ⟨Int.fmod_nonneg_of_pos a h, Int.fmod_lt_of_pos a h⟩
/-- exactly evaluated: a value, the heap as it was -/
def Vx (te : TE) (σ : St) (H : Hp) (v : V) : Prop := ∀ Q : VK, Q v H → te σ H Q
theorem vx_or {ta tb : TE} {σ : St} {H : Hp} {a b : Bool} (h1 : Vx ta σ H (.bl a)) (h2 : Vx tb σ H (.bl b)) : Vx (tOrV ta tb) σ H (.bl (a || b)) := by
  intro Q q
  refine h1 _ ⟨a, rfl, ?_⟩
  cases a
  · exact iteF (h2 _ q)
  · exact iteT q
theorem vx_and {ta tb : TE} {σ : St} {H : Hp} {a b : Bool} (h1 : Vx ta σ H (.bl a)) (h2 : Vx tb σ H (.bl b)) : Vx (tAndV ta tb) σ H (.bl (a && b)) := by
  intro Q q
  refine h1 _ ⟨a, rfl, ?_⟩
  cases a
  · exact iteF q
  · exact iteT (h2 _ q)
theorem sq_asgB {te : TE} {g : TG} {tz : TS} {D : Ends} {σ : St} {H : Hp} (h : ∀ Q : VK, (∀ b : Bool, Q (.bl b) H) → te σ H Q) (k : ∀ b : Bool, g (.bl b) σ H (tz D)) : tSeq (tAsg te g) tz D σ H := h _ k
section
variable {P : Program} {w : World} {K : PySem.W.Frag} {mg : Str → Option Value} {base : Heap} {f : Addr} {fd : FuncData}
def spFill : Sp := fun vs H Q _ => ∃ (st c : Addr), vs = [.ref st] ∧ StAt H st c ∧ ∀ H', StAt H' st c → Kp st H H' → Q .non H'
abbrev s_fill : Stmt := top 19
theorem sc_fill : FnScope ["_law_state", "_law_cells", "_law_nth", "_law_seed", "_law_k", "_law_prime", "_law_far"] ["_law_state"] (defScope s_fill) := ⟨rfl, rfl, rfl, by decide +kernel, rfl, by decide +kernel, by decide +kernel⟩
theorem ok_fill (F : Fun K "_law_fill" "_law_fill" s_fill f fd) (T : Blt mg) : FnOk P w K mg base CX0 1 f fd ["_law_state"] spFill := by
  refine F.ok sc_fill (fun vs H Q E h => ?_) (fun cdv A outer s H vs Q E hr h => ?_)
  · obtain ⟨st, c, rfl, _⟩ := h
    rfl
  · obtain ⟨st, c, rfl, S, k⟩ := h
    obtain ⟨⟨n, l, b, h1⟩, ⟨ns, h2, hl⟩, ne⟩ := id S
    refine ⟨_, (pss_cons (ps_par (i := 1) (j := 2) (by rfl) sc_fill.nd rfl rfl (by decide) rfl rfl (pa_cons (pe_ix ix_list (pv 0) pe_int (fun _ _ => rfl)) (pa_cons (pe_ix ix_list (pv 0) pe_int (fun _ _ => rfl)) pa_nil)) (by rfl))
        (pss_cons (ps_set (i := 3) sc_fill.nd rfl (by first | exact Or.inl rfl | exact Or.inr rfl) (pe_op op_add (pe_op op_mul pe_int (pv 2)) pe_int))
        (Evl.pss_cut (ps_if (pt_cmpR op_gt (pe_callB call_len_seq (by rfl) T.b_len PySem.boot_len (pa_cons (pv 1) pa_nil)) pe_int (nomark _)) (pss_one (ps_set (i := 3) sc_fill.nd rfl (by first | exact Or.inl rfl | exact Or.inr rfl) (pe_op op_add (pe_op op_mul pe_int (pe_op op_fdivN (pv 2) (pe_callB call_len_seq (by rfl) T.b_len PySem.boot_len (pa_cons (pv 1) pa_nil)))) (pe_ix ix_list (pv 1) (pe_op op_modN (pe_callTy call_int1 (by rfl) T.b_int (by decide +kernel) (pa_cons (pv 2) pa_nil)) (pe_callB call_len_seq (by rfl) T.b_len PySem.boot_len (pa_cons (pv 1) pa_nil))) (fun _ _ => rfl))))) pss_nil)
        (pss_cons (ps_asg (pe_op op_add (pv 2) pe_int) (pg_sub (pv 0) pe_int set_list))
        (pss_cons (ps_asg (pe_or (pe_cmpR op_ge (pv 2) (pe_callB call_len_seq (by rfl) T.b_len PySem.boot_len (pa_cons (pv 1) pa_nil)) (nomark _)) (pe_one (pe_cmpR op_lt (pv 3) (pe_op op_pow pe_int pe_int) (nomark _)))) (pg_sub (pv 0) pe_int set_list))
        (pss_cons (ps_asg (pe_op op_sub (pv 3) (pe_op op_pow pe_int pe_int)) (pg_sub (pv 0) pe_int set_list))
        (pss_one (ps_if (pt_val (pe_ix ix_list (pv 0) pe_int (fun _ _ => rfl))) (pss_cons (ps_asg pe_int (pg_sub (pv 0) pe_int set_list))
        (pss_one (ps_for PassesOwn.never rfl (pi_enumA rfl T.b_enumerate (pa_cons (pe_tup (pa_cons pe_int (pa_cons pe_int (pa_cons pe_int (pa_cons pe_int (pa_cons pe_int pa_nil)))))) pa_nil)) (pg_tup rfl (pgs_cons (pg_name (i := 4) sc_fill.nd rfl (by first | exact Or.inl rfl | exact Or.inr rfl)) (pgs_cons (pg_name (i := 5) sc_fill.nd rfl (by first | exact Or.inl rfl | exact Or.inr rfl)) pgs_nil))) (pss_cons (ps_set (i := 6) sc_fill.nd rfl (by first | exact Or.inl rfl | exact Or.inr rfl) (pe_op op_modN (pe_callTy call_int1 (by rfl) T.b_int (by decide +kernel) (pa_cons (pe_op op_mul (pe_op op_add (pe_op op_add (pv 3) (pe_op op_mul (pe_op op_mul pe_int (pv 4)) (pv 4))) (pe_op op_mul pe_int (pv 4))) (pe_op op_add pe_int (pe_op op_mul pe_int (pv 4)))) pa_nil)) (pv 5)))
        (pss_one (ps_asg (pe_op op_add (pe_op op_mul (pe_ix ix_list (pv 0) pe_int (fun _ _ => rfl)) (pv 5)) (pe_op op_modN (pe_callTy call_int1 (by rfl) T.b_int (by decide +kernel) (pa_cons (pe_op op_pow (pv 6) pe_int) pa_nil)) (pv 5))) (pg_sub (pv 0) pe_int set_list))))))) pss_nil)))))))), ?_⟩
    refine ⟨_, rfl, _, _, _, _, rfl, rfl, SqL.of h1, rfl, _, rfl, _, _, _, _, rfl, rfl, SqL.of h1, rfl, _, _, rfl, ?_⟩
    refine ⟨_, rfl, _, _, rfl, rfl, .inl ⟨by decide, by decide⟩, _, _, rfl, rfl, ?_⟩
    refine ⟨fun σ' H' => H = H' ∧ ∃ seed : Int, σ' = [some (.ref st), some (.ref c), some (.int n), some (.int seed), none, none, none], ?_, ?_⟩
    · refine ⟨_, rfl, _, _, rfl, .inl (SqL.of h2), _, _, rfl, rfl, _, rfl, ite2 (fun hp => ?_) (fun _ => ⟨rfl, _, rfl⟩)⟩
      have e : (ns.map V.int).length = ns.length := List.length_map ..
      have hp : 0 < ns.length := by
        have hp := of_decide_eq_true hp
        rw [e] at hp; omega
      refine ⟨_, rfl, _, rfl, _, _, rfl, .inl (SqL.of h2), _, _, rfl, rfl, ⟨by rw [e]; omega, by rw [e]; omega⟩, _, _, rfl, rfl, .inl ⟨by decide, by decide⟩, ?_⟩
      obtain ⟨m1, m2⟩ := fmod_bd n (p := ((ns.map V.int).length : Int)) (by rw [e]; omega)
      have hj : (Int.fmod n ((ns.map V.int).length : Int)).toNat < ns.length := by rw [e] at m1 m2 ⊢; omega
      refine ⟨_, rfl, _, rfl, .inl ⟨_, rfl, _, rfl, _, _, rfl, .inl (SqL.of h2), _, _, rfl, rfl, by rw [e]; omega, _, _, _, _, rfl, rfl, SqL.of h2, at_of (j := (Int.fmod n ((ns.map V.int).length : Int)).toNat) (Int.toNat_of_nonneg m1).symm (by rw [List.getElem?_map, List.getElem?_eq_getElem hj]; rfl), _, _, rfl, rfl, ⟨rfl, _, rfl⟩⟩⟩
    · rintro σ' H' ⟨rfl, seed, rfl⟩
      refine ⟨_, rfl, _, _, rfl, rfl, _, rfl, _, _, _, _, rfl, rfl, h1, rfl, ?_⟩
      generalize hH1 : upd H st _ = H1
      have g1 : H1 st = some (.lst [.ref c, .int (n + 1), .int l, .bl b]) := by rw [← hH1]; exact upd_same
      have g2 : H1 c = some (.lst (ns.map V.int)) := by rw [← hH1, upd_ne ne]; exact h2
      have kp1 : Kp st H H1 := by rw [← hH1]; exact Kp.upd _ _ _
      clear hH1
      -- far or not
      dsimp only
      refine sq_asgB (fun Q q => ?_) fun b' => ?_
      · refine ⟨_, rfl, _, rfl, _, _, rfl, .inl (SqL.of g2), _, _, rfl, rfl, _, rfl, ite2 (fun _ => q true) (fun _ => ?_)⟩
        exact ⟨_, rfl, _, _, rfl, rfl, ⟨by decide, by decide, by decide⟩, _, _, rfl, rfl, q _⟩
      refine ⟨_, rfl, _, _, _, _, rfl, rfl, g1, rfl, ?_⟩
      generalize hH2 : upd H1 st _ = H2
      have g3 : H2 st = some (.lst [.ref c, .int (n + 1), .int l, .bl b']) := by rw [← hH2]; exact upd_same
      have g4 : H2 c = some (.lst (ns.map V.int)) := by rw [← hH2, upd_ne ne]; exact g2
      have kp2 : Kp st H H2 := by rw [← hH2]; exact kp1.trans (Kp.upd _ _ _)
      clear hH2
      refine ⟨_, rfl, _, _, rfl, rfl, ⟨by decide, by decide, by decide⟩, _, _, rfl, rfl, _, rfl, _, _, _, _, rfl, rfl, g3, rfl, ?_⟩
      generalize hH3 : upd H2 st _ = H3
      obtain ⟨l3, g5⟩ : ∃ l3, H3 st = some (.lst [.ref c, .int (n + 1), .int l3, .bl b']) := ⟨_, by rw [← hH3]; exact upd_same⟩
      have g6 : H3 c = some (.lst (ns.map V.int)) := by rw [← hH3, upd_ne ne]; exact g4
      have kp3 : Kp st H H3 := by rw [← hH3]; exact kp2.trans (Kp.upd _ _ _)
      clear hH3
      refine ⟨_, rfl, _, _, _, _, rfl, rfl, SqL.of g5, rfl, _, rfl, ite2 (fun _ => ?_) (fun _ => k _ ⟨⟨_, _, _, g5⟩, ⟨ns, g6, hl⟩, ne⟩ kp3)⟩
      refine ⟨_, rfl, _, _, _, _, rfl, rfl, g5, rfl, ?_⟩
      generalize hH4 : upd H3 st _ = H4
      have g7 : H4 st = some (.lst [.ref c, .int (n + 1), .int 0, .bl b']) := by rw [← hH4]; exact upd_same
      have g8 : H4 c = some (.lst (ns.map V.int)) := by rw [← hH4, upd_ne ne]; exact g6
      have kp4 : Kp st H H4 := by rw [← hH4]; exact kp3.trans (Kp.upd _ _ _)
      clear hH4
      refine ⟨by show 5 ≤ sizeLine; decide, fun t nt => ?_⟩
      have hts : t ≠ st := (ne_of_none g7 nt).symm
      have htc : t ≠ c := (ne_of_none g8 nt).symm
      refine ⟨t, _, rfl, .inr ⟨SqT.of upd_same, for_it (walk_enumT (K := K) (xs := [V.int 2147483647, V.int 2147483629, V.int 2147483587, V.int 2147483579, V.int 2147483563])) (fun i σ' H' => ∃ (u v x : Option V) (l' : Int), σ' = [some (.ref st), some (.ref c), some (.int n), some (.int seed), u, v, x] ∧ Kp st (upd H4 t (.tup [V.int 2147483647, V.int 2147483629, V.int 2147483587, V.int 2147483579, V.int 2147483563])) H' ∧ H' st = some (.lst [.ref c, .int (n + 1), .int l', .bl b'])) ?_ ?_ ?_ ?_⟩⟩
      · exact ⟨_, _, _, _, rfl, Kp.refl _ _, by rw [upd_ne hts.symm]; exact g7⟩
      · rintro i σ' H' _ ⟨u, v, x, l', rfl, e, _⟩
        exact SqT.of (e _ _ hts upd_same)
      · rintro i y σ' H' H'' hi ⟨u, v, x, l', rfl, e, e2⟩ ⟨T, x1, x2, rfl, nT, rfl, hx1, hx2⟩
        obtain ⟨pr, rfl, pr0, pr1⟩ : ∃ pr : Int, x2 = .int pr ∧ 0 < pr ∧ pr < 2147483648 := by
          have hm := mem_at hx2
          simp only [List.mem_cons, List.not_mem_nil, or_false] at hm
          rcases hm with rfl | rfl | rfl | rfl | rfl <;> exact ⟨_, rfl, by decide, by decide⟩
        cases (Option.some.inj hx1)
        have hi : i < 5 := hi
        have hTs : T ≠ st := (ne_of_none e2 nT).symm
        refine ⟨T, _, rfl, SqT.of upd_same, rfl, _, _, rfl, _, _, rfl, rfl, ?_⟩
        refine ⟨_, rfl, _, rfl, _, _, rfl, rfl, .inl ⟨by decide, by decide⟩, _, rfl, _, _, rfl, rfl, .inr ⟨by omega, by omega⟩, _, _, rfl, rfl, ?_⟩
        refine ⟨_, rfl, _, _, rfl, rfl, .inl ⟨by decide, by decide⟩, _, _, rfl, rfl, _, rfl, _, _, rfl, rfl, .inl ⟨by decide, by decide⟩, _, _, rfl, rfl, _, _, rfl, rfl, .inr ⟨by omega, by omega⟩, ?_⟩
        refine .inl ⟨_, rfl, _, rfl, _, _, rfl, rfl, by omega, ?_⟩
        generalize hfar : Int.fmod _ pr = far
        have hfar2 := fmod_bd (((seed + 10007 * (i : Int) * (i : Int) + 101 * (i : Int)) * (48271 + 2 * (i : Int)))) pr0
        rw [hfar] at hfar2
        refine ⟨_, rfl, _, _, _, _, rfl, rfl, SqL.of (by rw [upd_ne hTs.symm]; exact e2), rfl, _, rfl, _, _, rfl, rfl, .inr ⟨by omega, by omega⟩, ?_⟩
        refine ⟨_, rfl, _, _, rfl, rfl, ⟨by decide, by decide, by omega⟩, .inl ⟨_, rfl, _, rfl, _, _, rfl, rfl, by omega, _, _, rfl, rfl, _, rfl, _, _, _, _, rfl, rfl, by rw [upd_ne hTs.symm]; exact e2, rfl, ?_⟩⟩
        refine ⟨_, _, _, _, rfl, (e.trans (Kp.of (Same.upd' nT))).trans (Kp.upd _ _ _), upd_same⟩
      · rintro σ' H' ⟨u, v, x, l', rfl, e, e2⟩
        exact k _ ⟨⟨_, _, _, e2⟩, ⟨ns, e _ _ ne (by rw [upd_ne htc.symm]; exact g8), hl⟩, ne⟩ ((kp4.trans (Kp.of (Same.upd' nt))).trans e)
end
end Lm

namespace Lm
open PySem L2
/-! ### what is wanted may be weakened -/
def MonE (te : TE) : Prop := ∀ σ H (Q Q' : VK), (∀ v H1, Q v H1 → Q' v H1) → te σ H Q → te σ H Q'
def MonT (tt : TT) : Prop := ∀ σ H (Q Q' : Bool → Hp → Prop), (∀ b H1, Q b H1 → Q' b H1) → tt σ H Q → tt σ H Q'
def MonR (r : R2) : Prop := ∀ x y H (Q Q' : VK), (∀ v H1, Q v H1 → Q' v H1) → r x y H Q → r x y H Q'
theorem monE_var {i : Nat} : MonE (tVar i) := fun σ H Q Q' h ⟨v, e, q⟩ => ⟨v, e, h _ _ q⟩
theorem monE_c {v : V} : MonE (tC v) := fun σ H Q Q' h q => h _ _ q
theorem monE_op {r : R2} {ta tb : TE} (hr : MonR r) (ha : MonE ta) (hb : MonE tb) : MonE (tOp r ta tb) := fun σ H Q Q' h q => ha _ _ _ _ (fun x H1 q => hb _ _ _ _ (fun y H2 q => hr _ _ _ _ _ h q) q) q
theorem mon_I0 {g : Int → Int → V} : MonR (rI0 g) := fun x y H Q Q' h ⟨i, j, e1, e2, q⟩ => ⟨i, j, e1, e2, h _ _ q⟩
theorem mon_I {C : Int → Int → Prop} {g : Int → Int → V} : MonR (rI C g) := fun x y H Q Q' h ⟨i, j, e1, e2, c, q⟩ => ⟨i, j, e1, e2, c, h _ _ q⟩
theorem mon_ixL {K : PySem.W.Frag} : MonR (rIxL K) := fun x y H Q Q' h ⟨p, xs, i, v, e1, e2, e3, e4, q⟩ => ⟨p, xs, i, v, e1, e2, e3, e4, h _ _ q⟩
theorem mon_eq : MonR rEq := fun x y H Q Q' h ⟨e, q⟩ => ⟨e, h _ _ q⟩
theorem monT_test {te : TE} (he : MonE te) : MonT (tTest te) := fun σ H Q Q' h q => he _ _ _ _ (fun x H1 ⟨k, e, q⟩ => ⟨k, e, h _ _ q⟩) q
theorem monT_B {te : TE} (he : MonE te) : MonT (tB te) := fun σ H Q Q' h q => he _ _ _ _ (fun x H1 ⟨k, e, q⟩ => ⟨k, e, h _ _ q⟩) q
theorem monT_and {t u : TT} (ht : MonT t) (hu : MonT u) : MonT (tAnd t u) := fun σ H Q Q' h q => ht _ _ _ _ (fun b H1 q => by cases b with | true => exact hu _ _ _ _ h q | false => exact h _ _ q) q
theorem monT_or {t u : TT} (ht : MonT t) (hu : MonT u) : MonT (tOr t u) := fun σ H Q Q' h q => ht _ _ _ _ (fun b H1 q => by cases b with | true => exact h _ _ q | false => exact hu _ _ _ _ h q) q
section
variable {P : Program} {w : World} {K : PySem.W.Frag} {mg : Str → Option Value} {base : Heap} {f : Addr} {fd : FuncData}
def spTake : Sp := fun vs H Q _ => ∃ (st c : Addr) (m : Int), vs = [.ref st, .int m] ∧ StAt H st c ∧ 0 < m ∧ m < 1073741824 ∧ ∀ d H', 0 ≤ d → d < m → StAt H' st c → Kp st H H' → Q (.int d) H'
abbrev s_take : Stmt := top 20
theorem sc_take : FnScope ["_law_state", "_law_many", "_law_laps", "_law_digit"] ["_law_state", "_law_many"] (defScope s_take) := ⟨rfl, rfl, rfl, by decide +kernel, rfl, by decide +kernel, by decide +kernel⟩
theorem ok_take {fF : Addr} {fdF : FuncData} (F : Fun K "_law_take" "_law_take" s_take f fd) (T : Blt mg) (D_fill : DefOk P w K mg base 1 "_law_fill" fF fdF ["_law_state"] spFill) : FnOk P w K mg base CX0 2 f fd ["_law_state", "_law_many"] spTake := by
  refine F.ok sc_take (fun vs H Q E h => ?_) (fun cdv A outer s H vs Q E hr h => ?_)
  · obtain ⟨st, c, m, rfl, _⟩ := h
    rfl
  · obtain ⟨st, c, m, rfl, S, m0, m1, k⟩ := h
    refine ⟨_, (pss_cons (ps_set (i := 2) sc_take.nd rfl (by first | exact Or.inl rfl | exact Or.inr rfl) pe_int)
        (pss_cons (ps_while PassesOwn.never (PW.pt (pw_and (pt_cmpR op_lt (pv 2) pe_int (nomark _)) (pw_and1 (PW.pt (pw_or (pt_cmpR op_eq (pe_ix ix_list (pv 0) pe_int (fun _ _ => rfl)) pe_int (nomark _)) (pw_or1 (PW.pt (pw_and (pt_val (pe_ix ix_list (pv 0) pe_int (fun _ _ => rfl))) (pw_and1 (pt_cmpR op_lt (pe_ix ix_list (pv 0) pe_int (fun _ _ => rfl)) (pe_op op_mul (pv 1) pe_int) (nomark _))))))))))) (pss_cons (ps_expr (pe_d D_fill (hr.mono (by decide)) (pa_cons (pv 0) pa_nil)))
        (pss_cons (ps_aug (i := 2) sc_take.nd rfl (by first | exact Or.inl rfl | exact Or.inr rfl) pe_int ip_add)
        (pss_one (ps_if (PW.pt (pw_and (pt_val (pe_ix ix_list (pv 0) pe_int (fun _ _ => rfl))) (pw_and1 (pt_cmpR op_lt (pe_ix ix_list (pv 0) pe_int (fun _ _ => rfl)) (pe_op op_mul (pv 1) pe_int) (nomark _))))) (pss_one (ps_asg (pe_op op_add (pe_ix ix_list (pv 0) pe_int (fun _ _ => rfl)) (pe_op op_mul (pe_op op_mul (pv 1) pe_int) (pe_op op_add pe_int (pe_op op_modN (pe_callTy call_int1 (by rfl) T.b_int (by decide +kernel) (pa_cons (pe_ix ix_list (pv 0) pe_int (fun _ _ => rfl)) pa_nil)) pe_int)))) (pg_sub (pv 0) pe_int set_list))) pss_nil)))))
        (pss_cons (ps_set (i := 3) sc_take.nd rfl (by first | exact Or.inl rfl | exact Or.inr rfl) (pe_op op_modN (pe_callTy call_int1 (by rfl) T.b_int (by decide +kernel) (pa_cons (pe_ix ix_list (pv 0) pe_int (fun _ _ => rfl)) pa_nil)) (pv 1)))
        (pss_cons (ps_asg (pe_op op_fdivN (pe_ix ix_list (pv 0) pe_int (fun _ _ => rfl)) (pv 1)) (pg_sub (pv 0) pe_int set_list))
        (pss_one (ps_ret (pv 3))))))), ?_⟩
    refine while_by (fun σ' H' => ∃ (i : Nat), σ' = [some (.ref st), some (.int m), some (.int (i : Int)), none] ∧ i ≤ 64 ∧ StAt H' st c ∧ Kp st H H') (fun σ' _ => match σ' with | [_, _, some (.int i), _] => (64 - i).toNat | _ => 0) ⟨0, rfl, by decide, S, Kp.refl _ _⟩ ?_ ?_
    · rintro σ' H' ⟨i, rfl, hi, S', e⟩
      obtain ⟨⟨n, l, b, h1⟩, ⟨ns, h2, hl⟩, ne⟩ := id S'
      -- behind the loop
      have after : tSeq (tAsg (tOp (rI (fun x j => j ≠ 0) fun i j => V.int (i.fmod j)) (tCB (fun xs H Q => (∃ i, xs = [V.int i] ∧ Q (V.int i) H) ∨ ∃ k, xs = [V.bl k] ∧ Q (V.int (if k = true then 1 else 0)) H) (tCons (tOp (rIxL K) (tVar 0) (tC (.int 2))) tNil)) (tVar 1)) (gName 3))
          (tSeq (tAsg (tOp (rI CDivN fun i j => .int (i.fdiv j)) (tOp (rIxL K) (tVar 0) (tC (.int 2))) (tVar 1)) (gSub (tVar 0) (tC (.int 2)) rSetL)) (tRet (tVar 3))) { nx := fun _ H' => Q .non H', rt := Q } [some (.ref st), some (.int m), some (.int (i : Int)), none] H' := by
        refine ⟨_, rfl, _, _, _, _, rfl, rfl, SqL.of h1, rfl, .inl ⟨_, rfl, _, rfl, _, _, rfl, rfl, by omega, ?_⟩⟩
        have hd := fmod_bd l m0
        refine ⟨_, rfl, _, _, _, _, rfl, rfl, SqL.of h1, rfl, _, rfl, _, _, rfl, rfl, ⟨by omega, by omega⟩, _, rfl, _, _, _, _, rfl, rfl, h1, rfl, _, rfl, ?_⟩
        exact k _ _ hd.1 hd.2 ⟨⟨_, _, _, upd_same⟩, ⟨ns, by rw [upd_ne ne]; exact h2, hl⟩, ne⟩ (e.trans (Kp.upd _ _ _))
      refine ⟨_, rfl, _, _, rfl, rfl, _, rfl, ite2 (fun hc => ?_) (fun _ => iteF after)⟩
      have hc : i < 64 := by have := of_decide_eq_true hc; omega
      refine ⟨_, rfl, _, _, _, _, rfl, rfl, SqL.of h1, rfl, rfl, _, rfl, ite2 (fun _ => ?b1) (fun _ => ⟨_, rfl, _, _, _, _, rfl, rfl, SqL.of h1, rfl, _, rfl, ite2 (fun _ => ⟨_, rfl, _, _, _, _, rfl, rfl, SqL.of h1, rfl, _, rfl, _, _, rfl, rfl, .inr ⟨by decide, by decide⟩, _, _, rfl, rfl, _, rfl, ite2 (fun _ => ?b2) (fun _ => ?c1)⟩) (fun _ => ?c2)⟩)⟩
      case c1 => exact after
      case c2 => exact after
      all_goals
        refine ⟨_, rfl, st, c, rfl, S', fun H2 S2 e2 => ?_⟩
        obtain ⟨⟨n2, l2, b2, g1⟩, ⟨ns2, g2, gl⟩, _⟩ := id S2
        have fin : ∀ H3, StAt H3 st c → Kp st H2 H3 → (∃ j : Nat, [some (V.ref st), some (.int m), some (.int ((i : Int) + 1)), none] = [some (.ref st), some (.int m), some (.int (j : Int)), none] ∧ j ≤ 64 ∧ StAt H3 st c ∧ Kp st H H3) ∧ (64 - ((i : Int) + 1)).toNat < (64 - (i : Int)).toNat :=
          fun H3 S3 e3 => ⟨⟨i + 1, by simp, by omega, S3, (e.trans e2).trans e3⟩, by omega⟩
        refine ⟨_, rfl, _, _, rfl, rfl, ?_⟩
        refine ⟨_, rfl, _, _, _, _, rfl, rfl, SqL.of g1, rfl, _, rfl, ite2 (fun _ => ⟨_, rfl, _, _, _, _, rfl, rfl, SqL.of g1, rfl, _, rfl, _, _, rfl, rfl, .inr ⟨by decide, by decide⟩, _, _, rfl, rfl, _, rfl, ite2 (fun _ => ?_) (fun _ => fin _ S2 (Kp.refl _ _))⟩) (fun _ => fin _ S2 (Kp.refl _ _))⟩
        have hr2 := fmod_bd l2 (p := 4093) (by decide)
        refine ⟨_, rfl, _, _, _, _, rfl, rfl, SqL.of g1, rfl, _, rfl, _, _, rfl, rfl, .inr ⟨by decide, by decide⟩, _, rfl, _, _, _, _, rfl, rfl, SqL.of g1, rfl, .inl ⟨_, rfl, _, _, rfl, rfl, (by show (4093 : Int) ≠ 0; decide), _, _, rfl, rfl, _, _, rfl, rfl, .inr ⟨by omega, by omega⟩, _, _, rfl, rfl, _, rfl, _, _, _, _, rfl, rfl, g1, rfl, ?_⟩⟩
        exact fin _ ⟨⟨_, _, _, upd_same⟩, ⟨ns2, by rw [upd_ne ne]; exact g2, gl⟩, ne⟩ (Kp.upd _ _ _)
    · exact monT_and (monT_test (monE_op mon_I0 (monE_var) (monE_c))) (monT_or (monT_test (monE_op mon_eq (monE_op mon_ixL monE_var monE_c) monE_c)) (monT_and (monT_B (monE_op mon_ixL monE_var monE_c)) (monT_test (monE_op mon_I0 (monE_op mon_ixL monE_var monE_c) (monE_op mon_I monE_var monE_c)))))
end
end Lm

namespace Lm
open PySem L2
section
variable {P : Program} {w : World} {K : PySem.W.Frag} {mg : Str → Option Value} {base : Heap} {f : Addr} {fd : FuncData}
def spOneA (K : PySem.W.Frag) : Sp := fun vs H Q _ => ∃ (st c t : Addr) (xs : List V), vs = [.ref st, .ref t] ∧ StAt H st c ∧ t ≠ st ∧ (SqL K H t xs ∨ SqT K H t xs) ∧ 0 < xs.length ∧ xs.length < 1073741824 ∧ ∀ v H', v ∈ xs → StAt H' st c → Kp st H H' → Q v H'
def spOne (K : PySem.W.Frag) : Sp := fun vs H Q _ => ∃ (st c t : Addr) (xs : List V), vs = [.ref st, .ref t] ∧ StAt H st c ∧ t ≠ st ∧ SqT K H t xs ∧ 0 < xs.length ∧ xs.length < 1073741824 ∧ ∀ v H', v ∈ xs → StAt H' st c → Kp st H H' → Q v H'
abbrev s_one : Stmt := top 21
theorem sc_one : FnScope ["_law_state", "_law_things"] ["_law_state", "_law_things"] (defScope s_one) := ⟨rfl, rfl, rfl, by decide +kernel, rfl, by decide +kernel, by decide +kernel⟩
theorem ok_oneA {fT : Addr} {fdT : FuncData} (F : Fun K "_law_one" "_law_one" s_one f fd) (T : Blt mg) (D_take : DefOk P w K mg base 2 "_law_take" fT fdT ["_law_state", "_law_many"] spTake) : FnOk P w K mg base CX0 3 f fd ["_law_state", "_law_things"] (spOneA K) := by
  refine F.ok sc_one (fun vs H Q E h => ?_) (fun cdv A outer s H vs Q E hr h => ?_)
  · obtain ⟨st, c, t, xs, rfl, _⟩ := h
    rfl
  · obtain ⟨st, c, t, xs, rfl, S, hts, hq, l0, l1, k⟩ := h
    refine ⟨_, (pss_one (ps_ret (pe_ix ix_seq (pv 1) (pe_d D_take (hr.mono (by decide)) (pa_cons (pv 0) (pa_cons (pe_callB call_len_seq (by rfl) T.b_len PySem.boot_len (pa_cons (pv 1) pa_nil)) pa_nil))) (fun _ _ => rfl)))), ?_⟩
    refine ⟨_, rfl, _, rfl, _, rfl, _, _, rfl, hq, st, c, _, rfl, S, by omega, by omega, fun d H' d0 d1 S' e => ?_⟩
    have hd : d.toNat < xs.length := by omega
    have at_ := at_of (Int.toNat_of_nonneg d0).symm (List.getElem?_eq_getElem hd)
    have fin := k _ _ (List.getElem_mem hd) S' e
    rcases hq with hq | hq
    · exact .inl ⟨t, xs, d, _, rfl, rfl, e.seqL hts hq, at_, fin⟩
    · exact .inr (.inl ⟨t, xs, d, _, rfl, rfl, e.seqT hts hq, at_, fin⟩)
theorem ok_one {fT : Addr} {fdT : FuncData} (F : Fun K "_law_one" "_law_one" s_one f fd) (T : Blt mg) (D_take : DefOk P w K mg base 2 "_law_take" fT fdT ["_law_state", "_law_many"] spTake) : FnOk P w K mg base CX0 3 f fd ["_law_state", "_law_things"] (spOne K) :=
  (ok_oneA F T D_take).imp fun vs H Q E ⟨st, c, t, xs, h1, h2, h3, h4, h5, h6, h7⟩ => ⟨st, c, t, xs, h1, h2, h3, .inr h4, h5, h6, h7⟩
/-! ### the words -/
def sg (c : Nat) : Str := ⟨#[c]⟩
def two (c d : Nat) : Str := ⟨#[c, d]⟩
def row2 (c : Nat) : List Str := [103, 104, 105, 106, 107, 108, 109, 110, 111, 112].map (two c)
def w0 : List Str := ["a", "b", "k", "zz", "abcdefgh"]
def allW : List Str := w0 ++ [97, 98, 99, 100, 101, 102].flatMap row2
theorem two_eq (c d : Nat) : sg c ++ sg d = two c d := rfl
theorem len1 (c : Nat) : (sg c).length = 1 := rfl
def spAllW : Sp := fun vs H Q _ => vs = [] ∧ ∀ p H', H p = none → Same H H' → H' p = some (.lst (allW.map V.str)) → Q (.ref p) H'
abbrev s_all_words : Stmt := top 24
theorem sc_all_words : FnScope ["_law_found", "_law_x", "_law_y"] [] (defScope s_all_words) := ⟨rfl, rfl, rfl, by decide +kernel, rfl, by decide +kernel, by decide +kernel⟩
theorem sixL : ("abcdef" : Str).cps = #[97, 98, 99, 100, 101, 102] := by decide +kernel
theorem tenL : ("ghijklmnop" : Str).cps = #[103, 104, 105, 106, 107, 108, 109, 110, 111, 112] := by decide +kernel
theorem ok_all_words (F : Fun K "_law_all_words" "_law_all_words" s_all_words f fd) (T : Blt mg) : FnOk P w K mg base CX0 1 f fd [] spAllW := by
  refine F.ok sc_all_words (fun vs H Q E h => ?_) (fun cdv A outer s H vs Q E hr h => ?_)
  · obtain ⟨rfl, _⟩ := h
    rfl
  · obtain ⟨rfl, k⟩ := h
    refine ⟨_, (pss_cons (ps_set (i := 0) sc_all_words.nd rfl (by first | exact Or.inl rfl | exact Or.inr rfl) (pe_lst (pa_cons pe_str (pa_cons pe_str (pa_cons pe_str (pa_cons pe_str (pa_cons pe_str pa_nil)))))))
        (pss_cons (ps_for PassesOwn.never rfl (pi_str pe_str) (pg_name (i := 1) sc_all_words.nd rfl (by first | exact Or.inl rfl | exact Or.inr rfl)) (pss_one (ps_expr (pe_bm PySem.F.plainAttrs_list PySem.F.slot_list_extend PySem.F.type_list_extend mt_extend (pv 0) (by exact (pa_cons (pe_lc (own := [("_law_y", 2)]) (g := gName 2) (tt := tYes) (te := (tOp rAddS (tVar 1) (tVar 2))) rfl sc_all_words.nd (pi_str pe_str) (blkOk_by (own := [("_law_y", 2)]) (by kernel_rfl)) (fun _ _ _ _ _ => (pg_name (i := 2) sc_all_words.nd rfl (by first | exact Or.inl rfl | exact Or.inr rfl))) (fun _ _ _ _ _ => pts_nil) (fun _ _ _ _ _ => by exact (pe_op op_add_str (pv 1) (pv 2)))) pa_nil))))))
        (pss_one (ps_ret (pv 0))))), ?_⟩
    refine ⟨by show 5 ≤ sizeLine; decide, fun p np => ?_⟩
    refine ⟨_, rfl, for_it walk_str (fun i σ' H' => ∃ u v : Option V, σ' = [some (.ref p), u, v] ∧ Same H H' ∧ H' p = some (.lst ((w0 ++ ([97, 98, 99, 100, 101, 102].take i).flatMap row2).map V.str))) ⟨none, none, rfl, Same.upd' np, upd_same⟩ (fun _ _ _ _ _ => True.intro) ?_ ?_⟩
    · rintro i x σ' H' H'' hi ⟨u, v, rfl, e, hp⟩ ⟨rfl, c, hc, rfl⟩
      rw [sixL] at hi hc
      refine ⟨_, rfl, .inl ⟨rfl, _, SqL.of hp⟩, ?_⟩
      refine ⟨_, rfl, fun D nD => lc_it walk_str (fun j H2 => Same H'' H2 ∧ H2 D = some (.lst ((([103, 104, 105, 106, 107, 108, 109, 110, 111, 112].take j).map (two c)).map V.str))) ⟨Same.upd' nD, upd_same⟩ (fun _ _ _ _ => True.intro) ?_ ?_⟩
      · rintro j y H2 H3 hj ⟨g1, g2⟩ ⟨rfl, d, hd, rfl⟩
        rw [tenL] at hj hd
        refine ⟨rfl, _, rfl, _, rfl, sg c, sg d, rfl, rfl, by rw [len1, len1]; decide, _, g2, small1000 (by simp; omega), ?_⟩
        refine ⟨Same.mut g1 nD, ?_⟩
        have hd' : [103, 104, 105, 106, 107, 108, 109, 110, 111, 112][j]? = some d := by simpa using hd
        rw [upd_same, List.take_succ, hd', two_eq]
        simp
      · rintro H2 ⟨g1, g2⟩
        rw [tenL] at g2
        have g2 : H2 D = some (.lst ((row2 c).map V.str)) := g2
        have hDp : D ≠ p := (ne_of_none hp nD).symm
        have hc' : [97, 98, 99, 100, 101, 102][i]? = some c := by simpa using hc
        refine ⟨_, _, _, _, rfl, rfl, g1 _ _ hp, g2, ?_, ?_⟩
        · show _ ≤ sizeLine
          refine Nat.le_of_lt (small1000 ?_)
          have hi' : i ≤ 6 := Nat.le_of_lt hi
          have : ∀ i ≤ 6, ((w0 ++ ([97, 98, 99, 100, 101, 102].take i).flatMap row2).map V.str).length ≤ 800 := by decide +kernel
          have h1 := this i hi'
          have h2 : ((row2 c).map V.str).length = 10 := by simp [row2]
          omega
        · refine ⟨_, _, rfl, Same.mut (e.trans g1) np, ?_⟩
          rw [upd_same, List.take_succ, hc']
          simp
    · rintro σ' H' ⟨u, v, rfl, e, hp⟩
      rw [sixL] at hp
      exact ⟨_, rfl, k p _ np e hp⟩
end
end Lm

namespace Lm
open PySem L2
def isW (x : Str) : Bool := decide (1 ≤ x.cps.size) && decide (x.cps.size ≤ 8) && x.cps.toList.all fun c => decide (97 ≤ c) && decide (c ≤ 122)
theorem allW_nodup : allW.Nodup := by decide +kernel
theorem allW_len : allW.length = 65 := by decide +kernel
theorem allW_word : ∀ x ∈ allW, isW x = true := by decide +kernel
/-- of the words so many, all unlike -/
structure Wds (ws : List Str) (n : Nat) : Prop where
  len : ws.length = n
  nd : ws.Nodup
  wd : ∀ x ∈ ws, isW x = true
theorem perm_erase {α : Type} : ∀ (l : List α) (i : Nat) (h : i < l.length), (l[i] :: l.eraseIdx i).Perm l
  | a :: r, 0, _ => .refl _
  | a :: r, i + 1, h => by
    have := perm_erase r i (by simpa using h)
    exact (List.Perm.swap _ _ _).trans (this.cons a)
theorem erase_map {α β : Type} (g : α → β) : ∀ (l : List α) (i : Nat), (l.map g).eraseIdx i = (l.eraseIdx i).map g
  | [], _ => rfl
  | _ :: _, 0 => rfl
  | a :: r, i + 1 => by
    show g a :: (r.map g).eraseIdx i = g a :: (r.eraseIdx i).map g
    rw [erase_map g r i]
theorem wds_of {F L : List Str} (h : (F ++ L).Perm allW) : Wds F F.length := by
  have nd := h.symm.nodup allW_nodup
  exact ⟨rfl, (List.nodup_append.mp nd).1, fun x hx => allW_word x (h.mem_iff.mp (List.mem_append_left _ hx))⟩
section
variable {P : Program} {w : World} {K : PySem.W.Frag} {mg : Str → Option Value} {base : Heap} {f : Addr} {fd : FuncData}
def spSomeWA : Sp := fun vs H Q _ => ∃ (st c : Addr) (m : Nat), vs = [.ref st, .int m] ∧ StAt H st c ∧ m ≤ 60 ∧ ∀ p ws H', H p = none → Wds ws m → (∀ x ∈ ws, x ∈ allW) → StAt H' st c → Kp st H H' → H' p = some (.lst (ws.map V.str)) → Q (.ref p) H'
def spSomeW : Sp := fun vs H Q _ => ∃ (st c : Addr) (m : Nat), vs = [.ref st, .int m] ∧ StAt H st c ∧ m ≤ 60 ∧ ∀ p ws H', H p = none → Wds ws m → StAt H' st c → Kp st H H' → H' p = some (.lst (ws.map V.str)) → Q (.ref p) H'
abbrev s_some_words : Stmt := top 25
theorem sc_some_words : FnScope ["_law_state", "_law_many", "_law_left", "_law_found", "_law_k"] ["_law_state", "_law_many"] (defScope s_some_words) := ⟨rfl, rfl, rfl, by decide +kernel, rfl, by decide +kernel, by decide +kernel⟩
theorem ok_some_wordsA {fT fW : Addr} {fdT fdW : FuncData} (F : Fun K "_law_some_words" "_law_some_words" s_some_words f fd) (T : Blt mg) (D_take : DefOk P w K mg base 2 "_law_take" fT fdT ["_law_state", "_law_many"] spTake)
    (D_all_words : DefOk P w K mg base 1 "_law_all_words" fW fdW [] spAllW) : FnOk P w K mg base CX0 3 f fd ["_law_state", "_law_many"] spSomeWA := by
  refine F.ok sc_some_words (fun vs H Q E h => ?_) (fun cdv A outer s H vs Q E hr h => ?_)
  · obtain ⟨st, c, m, rfl, _⟩ := h
    rfl
  · obtain ⟨st, c, m, rfl, S, hm, k⟩ := h
    refine ⟨_, (pss_cons (ps_par (i := 2) (j := 3) (by rfl) sc_some_words.nd rfl rfl (by decide) rfl rfl (pa_cons (pe_d0 D_all_words (hr.mono (by decide))) (pa_cons (pe_lst pa_nil) pa_nil)) (by rfl))
        (pss_cons (ps_for PassesOwn.never rfl (pi_range1 rfl T.b_range (pa_cons (pv 1) pa_nil)) (pg_name (i := 4) sc_some_words.nd rfl (by first | exact Or.inl rfl | exact Or.inr rfl)) (pss_one (ps_expr (pe_bm PySem.F.plainAttrs_list PySem.F.slot_list_append PySem.F.type_list_append mt_append (pv 3) (pa_cons (pe_bm PySem.F.plainAttrs_list PySem.F.slot_list_pop PySem.F.type_list_pop mt_popAt (pv 2) (pa_cons (pe_d D_take (hr.mono (by decide)) (pa_cons (pv 0) (pa_cons (pe_callB call_len_seq (by rfl) T.b_len PySem.boot_len (pa_cons (pv 2) pa_nil)) pa_nil))) pa_nil)) pa_nil)))))
        (pss_one (ps_ret (pv 3))))), ?_⟩
    refine ⟨rfl, fun l H1 nl e1 hl => ⟨by show 0 ≤ sizeLine; decide, fun fo nfo => ⟨_, _, rfl, ?_⟩⟩⟩
    have nfo' := e1.free nfo
    have hlf : l ≠ fo := ne_of_none hl nfo
    refine ⟨_, rfl, _, rfl, by omega, by omega, for_range (n := ((m : Int) - 0).toNat) (fun i σ' H' => ∃ (u : Option V) (F L : List Str), σ' = [some (.ref st), some (.int m), some (.ref l), some (.ref fo), u] ∧ F.length = i ∧ (F ++ L).Perm allW ∧ StAt H' st c ∧ Kp st H H' ∧ H' l = some (.lst (L.map V.str)) ∧ H' fo = some (.lst (F.map V.str)))
      ⟨none, [], allW, rfl, rfl, .refl _, (S.same e1).same (Same.upd' nfo), Kp.of (e1.trans (Same.upd' nfo)), by rw [upd_ne hlf]; exact hl, upd_same⟩ ?_ ?_⟩
    · rintro i σ' H' hi ⟨u, F, L, rfl, hF, hp, S', e, gl, gf⟩
      have hi : i < m := by omega
      have hlen : F.length + L.length = 65 := by
        have := hp.length_eq
        rw [List.length_append, allW_len] at this
        exact this
      obtain ⟨hls, hlc⟩ : l ≠ st ∧ l ≠ c := S.of_new nl
      obtain ⟨hfs, hfc⟩ : fo ≠ st ∧ fo ≠ c := S.of_new nfo'
      refine ⟨_, rfl, .inl ⟨rfl, _, SqL.of gf⟩, ?_⟩
      refine ⟨_, rfl, .inl ⟨rfl, _, SqL.of gl⟩, _, rfl, _, rfl, _, _, rfl, .inl (SqL.of gl), st, c, _, rfl, S', by simp; omega, by simp; omega, fun d H2 d0 d1 S2 e2 => ?_⟩
      have gl2 := e2 _ _ hls gl
      have gf2 := e2 _ _ hfs gf
      have hd : d.toNat < L.length := by simp at d1; omega
      refine ⟨l, _, d, d.toNat, _, rfl, rfl, gl2, by omega, by omega, PySem.seqIndex_of d0 (by simpa using d1), (by rw [List.getElem?_map, List.getElem?_eq_getElem hd]; rfl), ?_⟩
      refine ⟨_, _, _, rfl, rfl, by rw [upd_ne hlf.symm]; exact gf2, small1000 (by simp; omega), ?_⟩
      refine ⟨_, F ++ [L[d.toNat]], L.eraseIdx d.toNat, rfl, by simp [hF], ?_, (S2.mut hls hlc).mut hfs hfc, Kp.mut (Kp.mut (e.trans e2) nl) nfo', ?_, ?_⟩
      · refine List.Perm.trans ?_ hp
        rw [List.append_assoc]
        exact (perm_erase L d.toNat hd).append_left F
      · rw [upd_ne hlf, upd_same, erase_map]
      · rw [upd_same]
        simp
    · rintro σ' H' ⟨u, F, L, rfl, hF, hp, S', e, gl, gf⟩
      have hF : F.length = m := by omega
      exact ⟨_, rfl, k fo F H' nfo' (hF ▸ wds_of hp) (fun x hx => hp.mem_iff.mp (List.mem_append_left _ hx)) S' e gf⟩
theorem ok_some_words {fT fW : Addr} {fdT fdW : FuncData} (F : Fun K "_law_some_words" "_law_some_words" s_some_words f fd) (T : Blt mg) (D_take : DefOk P w K mg base 2 "_law_take" fT fdT ["_law_state", "_law_many"] spTake)
    (D_all_words : DefOk P w K mg base 1 "_law_all_words" fW fdW [] spAllW) : FnOk P w K mg base CX0 3 f fd ["_law_state", "_law_many"] spSomeW :=
  (ok_some_wordsA F T D_take D_all_words).imp fun vs H Q E ⟨st, c, m, h1, h2, h3, h4⟩ => ⟨st, c, m, h1, h2, h3, fun p ws H' a b _ d e g => h4 p ws H' a b d e g⟩
def spKept : Sp := fun vs H Q _ => ∃ (st c : Addr) (m : Nat), vs = [.ref st, .int m] ∧ StAt H st c ∧ m ≤ 60 ∧ ∀ p (S : Nat → Bool) H', H p = none → StAt H' st c → Kp st H H' → H' p = some (.lst (((List.range m).filter S).map fun i : Nat => V.int i)) → Q (.ref p) H'
abbrev s_kept : Stmt := top 28
theorem sc_kept : FnScope ["_law_state", "_law_many", "_law_wide", "_law_side", "_law_k"] ["_law_state", "_law_many"] (defScope s_kept) := ⟨rfl, rfl, rfl, by decide +kernel, rfl, by decide +kernel, by decide +kernel⟩
theorem ok_kept {fT fO : Addr} {fdT fdO : FuncData} (F : Fun K "_law_kept" "_law_kept" s_kept f fd) (T : Blt mg) (D_take : DefOk P w K mg base 2 "_law_take" fT fdT ["_law_state", "_law_many"] spTake)
    (D_one : DefOk P w K mg base 3 "_law_one" fO fdO ["_law_state", "_law_things"] (spOne K)) : FnOk P w K mg base CX0 4 f fd ["_law_state", "_law_many"] spKept := by
  refine F.ok sc_kept (fun vs H Q E h => ?_) (fun cdv A outer s H vs Q E hr h => ?_)
  · obtain ⟨st, c, m, rfl, _⟩ := h
    rfl
  · obtain ⟨st, c, m, rfl, S, hm, k⟩ := h
    refine ⟨_, (pss_cons (ps_asg (pe_tup (pa_cons (pe_d D_one (hr.mono (by decide)) (pa_cons (pv 0) (pa_cons (pe_tup (pa_cons pe_int (pa_cons pe_int (pa_cons pe_int (pa_cons pe_int (pa_cons pe_int pa_nil)))))) pa_nil))) (pa_cons (pe_d D_take (hr.mono (by decide)) (pa_cons (pv 0) (pa_cons pe_int pa_nil))) pa_nil))) (pg_tup rfl (pgs_cons (pg_name (i := 2) sc_kept.nd rfl (by first | exact Or.inl rfl | exact Or.inr rfl)) (pgs_cons (pg_name (i := 3) sc_kept.nd rfl (by first | exact Or.inl rfl | exact Or.inr rfl)) pgs_nil))))
        (pss_one (ps_ret (pe_lc (own := [("_law_k", 4)]) (g := gName 4) (tt := (tTest (tOp rEq (tOp rEq (tCall spTake [] E0 (tCons (tVar 0) (tCons (tVar 2) tNil))) (tC (.int 0))) (tOp rEq (tVar 3) (tC (.int 0)))))) (te := (tVar 4)) rfl sc_kept.nd (pi_range1 rfl T.b_range (pa_cons (pv 1) pa_nil)) (blkOk_by (own := [("_law_k", 4)]) (by kernel_rfl)) (fun _ _ _ _ _ => (pg_name (i := 4) sc_kept.nd rfl (by first | exact Or.inl rfl | exact Or.inr rfl))) (fun _ _ _ _ _ => by exact (pts_one (pt_cmpR op_eq (pe_cmpR op_eq (pe_d D_take (hr.mono (by decide)) (pa_cons (pv 0) (pa_cons (pv 2) pa_nil))) pe_int (nomark _)) (pe_cmpR op_eq (pv 3) pe_int (nomark _)) (nomark _)))) (fun _ _ _ _ _ => by exact (pv 4)))))), ?_⟩
    refine ⟨_, rfl, by show 5 ≤ sizeLine; decide, fun t nt => ?_⟩
    have hts := (S.of_new nt).1
    refine ⟨st, c, t, _, rfl, S.same (Same.upd' nt), hts, SqT.of upd_same, by show 0 < 5; decide, by show 5 < _; decide, fun v H1 hv S1 e1 => ?_⟩
    obtain ⟨wide, rfl, w0, w1⟩ : ∃ n : Int, v = .int n ∧ 0 < n ∧ n < 100 := by
      simp only [List.mem_cons, List.not_mem_nil, or_false] at hv
      rcases hv with rfl | rfl | rfl | rfl | rfl <;> exact ⟨_, rfl, by decide, by decide⟩
    refine ⟨_, rfl, st, c, 2, rfl, S1, by decide, by decide, fun side H2 s0 s1 S2 e2 => ?_⟩
    have e12 : Kp st H H2 := ((Kp.of (Same.upd' nt)).trans e1).trans e2
    refine ⟨by show 2 ≤ sizeLine; decide, fun t2 nt2 => ?_⟩
    refine ⟨t2, _, rfl, SqT.of upd_same, rfl, _, _, rfl, _, _, rfl, rfl, ?_⟩
    have S3 : StAt (upd H2 t2 (.tup [.int wide, .int side])) st c := S2.same (Same.upd' nt2)
    have e3 : Kp st H (upd H2 t2 (.tup [.int wide, .int side])) := e12.trans (Kp.of (Same.upd' nt2))
    refine ⟨_, rfl, _, rfl, by omega, by omega, fun D nD => ?_⟩
    have nDH : H D = none := e3.free (S3.of_new nD).1 nD
    refine lc_range (lo := 0) (n := (m : Int).toNat) (fun i H' => StAt H' st c ∧ Kp st H H' ∧ ∃ S : Nat → Bool, H' D = some (.lst (((List.range i).filter S).map fun i : Nat => V.int i))) ⟨S3.same (Same.upd' nD), Kp.mut e3 nDH, fun _ => false, upd_same⟩ ?_ ?_
    · rintro i H' hi ⟨S', e, B, hB⟩
      refine ⟨rfl, ?_⟩
      refine ⟨_, rfl, _, rfl, st, c, wide, rfl, S', w0, by omega, fun d H4 d0 d1 S4 e4 => ?_⟩
      refine ⟨rfl, _, rfl, rfl, rfl, _, rfl, ?_⟩
      have hDs := (S3.of_new nD).1
      have hDc := (S3.of_new nD).2
      have hB4 := e4 _ _ hDs hB
      have z : (0 : Int) + (i : Int) = (i : Int) := by omega
      refine ite2 (fun _ => ?_) (fun _ => ?_)
      · refine ⟨_, rfl, _, hB4, small1000 (by simp; exact Nat.le_trans (List.length_filter_le _ _) (by simp; omega)), S4.mut hDs hDc, Kp.mut (e.trans e4) nDH, fun j => if j = i then true else B j, ?_⟩
        rw [upd_same, List.range_succ, List.filter_append, List.map_append]
        have e5 : (List.range i).filter (fun j => if j = i then true else B j) = (List.range i).filter B := List.filter_congr fun j hj => by
          have : j ≠ i := by have := List.mem_range.mp hj; omega
          simp [this]
        rw [e5]
        simp
      · refine ⟨S4, e.trans e4, fun j => if j = i then false else B j, ?_⟩
        rw [hB4, List.range_succ, List.filter_append]
        have e5 : (List.range i).filter (fun j => if j = i then false else B j) = (List.range i).filter B := List.filter_congr fun j hj => by
          have : j ≠ i := by have := List.mem_range.mp hj; omega
          simp [this]
        rw [e5]
        simp
    · rintro H' ⟨S', e, B, hB⟩
      exact k D B H' nDH S' e (by simpa using hB)
end
end Lm

namespace Lm
open PySem L2
section
variable {P : Program} {w : World} {K : PySem.W.Frag} {mg : Str → Option Value} {base : Heap} {f : Addr} {fd : FuncData}
abbrev c_LETTERS : V := .str "abcdefghijklmnopqrstuvwxyz"
abbrev c_LONGEST_WORD : V := .int 8
/-- the module's constants -/
structure Cst (mg : Str → Option Value) (tL tW : Tok) : Prop where
  g_LETTERS : mg "LETTERS" = some (.str "abcdefghijklmnopqrstuvwxyz" tL)
  g_LONGEST_WORD : mg "LONGEST_WORD" = some (.int 8 tW)
def SeqAt (H : Hp) (a : Addr) (xs : List V) : Prop := H a = some (.lst xs) ∨ H a = some (.tup xs)
/-- is_number: of an int -/
def spIsNum : Sp := fun vs H Q _ => ∃ i : Int, vs = [.int i] ∧ Q (.bl true) H
def spUpTo : Sp := fun vs H Q _ => ∃ i n : Int, vs = [.int i, .int n] ∧ Q (.bl (decide (0 ≤ i ∧ i ≤ n))) H
def spIsRow : Sp := fun vs H Q _ => ∃ a xs, vs = [.ref a] ∧ SeqAt H a xs ∧ ∀ H', Same H H' → Q (.bl true) H'
abbrev s_is_row : Stmt := top 4
theorem sc_is_row : FnScope ["x"] ["x"] (defScope s_is_row) := ⟨rfl, rfl, rfl, by decide +kernel, rfl, by decide +kernel, by decide +kernel⟩
theorem ok_is_row (F : Fun K "is_row" "is_row" s_is_row f fd) (T : Blt mg) : FnOk P w K mg base CX0 1 f fd ["x"] spIsRow := by
  refine F.ok sc_is_row (fun vs H Q E h => ?_) (fun cdv A outer s H vs Q E hr h => ?_)
  · obtain ⟨a, xs, rfl, _⟩ := h
    rfl
  · obtain ⟨a, xs, rfl, hq, k⟩ := h
    refine ⟨_, (pss_one (ps_ret (pe_callB call_isiT (by rfl) T.b_isinstance (by decide +kernel) (pa_cons (pv 0) (pa_cons (pe_tup (pa_cons (pe_bltn (v := .ty "list") (u := .type "list") (by rfl) T.b_list (by decide +kernel) rfl) (pa_cons (pe_bltn (v := .ty "tuple") (u := .type "tuple") (by rfl) T.b_tuple (by decide +kernel) rfl) pa_nil))) pa_nil))))), ?_⟩
    refine ⟨_, rfl, by show 2 ≤ sizeLine; decide, fun p np => ?_⟩
    rcases hq with hq | hq
    · exact ⟨_, _, _, _, _, true, rfl, upd_same, .cons (.ty _) (.cons (.ty _) .nil), .base (.lst (by rw [upd_ne (ne_of_none hq np)]; exact hq)), kitAny_cons (b := true) (kit_ty (by decide +kernel)) (fun z => nomatch z) (fun _ => rfl), k _ (Same.upd' np)⟩
    · exact ⟨_, _, _, _, _, true, rfl, upd_same, .cons (.ty _) (.cons (.ty _) .nil), .base (.tup (by rw [upd_ne (ne_of_none hq np)]; exact hq)), kitAny_cons (b := false) (kit_ty (by decide +kernel)) (fun _ => kitAny_cons (b := true) (kit_ty (by decide +kernel)) (fun z => nomatch z) (fun _ => rfl)) (fun z => nomatch z), k _ (Same.upd' np)⟩
theorem isW_sign (c : Nat) : decide (c ∈ ("abcdefghijklmnopqrstuvwxyz" : Str).cps.toList) = (decide (97 ≤ c) && decide (c ≤ 122)) := by
  have e : ("abcdefghijklmnopqrstuvwxyz" : Str).cps.toList = List.range' 97 26 := by decide +kernel
  rw [e]
  simp only [List.mem_range'_1]
  by_cases h1 : 97 ≤ c <;> by_cases h2 : c ≤ 122 <;> simp [h1, h2] <;> omega
def spIsWord : Sp := fun vs H Q _ => ∃ x : Str, vs = [.str x] ∧ x.cps.size ≤ 1000 ∧ ∀ H', Same H H' → Q (.bl (isW x)) H'
abbrev s_is_word : Stmt := top 5
theorem sc_is_word : FnScope ["x", "sign"] ["x"] (defScope s_is_word) := ⟨rfl, rfl, rfl, by decide +kernel, rfl, by decide +kernel, by decide +kernel⟩
theorem ok_is_word (F : Fun K "is_word" "is_word" s_is_word f fd) (T : Blt mg) {tL tW : Tok} (T' : Cst mg tL tW) : FnOk P w K mg base CX0 1 f fd ["x"] spIsWord := by
  refine F.ok sc_is_word (fun vs H Q E h => ?_) (fun cdv A outer s H vs Q E hr h => ?_)
  · obtain ⟨x, rfl, _⟩ := h
    rfl
  · obtain ⟨x, rfl, hx, k⟩ := h
    refine ⟨_, (pss_cons (ps_if (pt_not (pt_val (pe_callB call_isi (by rfl) T.b_isinstance (by decide +kernel) (pa_cons (pv 0) (pa_cons (pe_bltn (v := .ty "str") (u := .type "str") (by rfl) T.b_str (by decide +kernel) rfl) pa_nil))))) (pss_one (ps_ret pe_bl)) pss_nil)
        (pss_one (ps_ret (pe_and (pe_chain op_le op_le pe_int (pe_callB call_len_str (by rfl) T.b_len PySem.boot_len (pa_cons (pv 0) pa_nil)) (pe_glob (v := c_LONGEST_WORD) rfl T'.g_LONGEST_WORD ⟨_, rfl⟩)) (pe_one (pe_callB (cr_all rfl) (by rfl) T.b_all (by decide +kernel) (by exact (pa_cons (pe_lc (own := [("sign", 1)]) (g := gName 1) (tt := tYes)/- R cmp -/ rfl sc_is_word.nd (pi_str (pv 0)) (blkOk_by (own := [("sign", 1)]) (by kernel_rfl)) (fun _ _ _ _ _ => (pg_name (i := 1) sc_is_word.nd rfl (by first | exact Or.inl rfl | exact Or.inr rfl))) (fun _ _ _ _ _ => pts_nil) (fun _ _ _ _ _ => by exact (pe_cmpR op_in_sign (pv 1) (pe_glob (v := c_LETTERS) rfl T'.g_LETTERS ⟨_, rfl⟩) rfl))) pa_nil)))))))), ?_⟩
    refine ⟨_, rfl, _, _, _, _, true, rfl, .ty _, .base (.str x), kit_ty (by decide +kernel), true, rfl, ?_⟩
    have hx' : x.length ≤ sizeLine := Nat.le_of_lt (small1000 hx)
    have hl : x.length = x.cps.size := rfl
    refine ⟨_, rfl, _, rfl, hx', _, _, rfl, rfl, _, rfl, ite2 (fun h0 => ?_) (fun h0 => ?_)⟩
    · have h0 : 1 ≤ x.cps.size := by have := of_decide_eq_true h0; omega
      refine ⟨_, _, rfl, rfl, _, rfl, ite2 (fun h1 => ?_) (fun h1 => ?_)⟩
      · have h1 : x.cps.size ≤ 8 := by have := of_decide_eq_true h1; omega
        refine ⟨_, rfl, x, rfl, fun D nD => lc_it walk_str (fun j H' => Same H H' ∧ H' D = some (.lst (((x.cps.toList.take j).map fun c => decide (97 ≤ c) && decide (c ≤ 122)).map V.bl))) ⟨Same.upd' nD, upd_same⟩ (fun _ _ _ _ => True.intro) ?_ ?_⟩
        · rintro j y H' H'' hj ⟨e, hD⟩ ⟨rfl, c, hc, rfl⟩
          refine ⟨rfl, _, rfl, _, _, rfl, rfl, _, hD, small1000 (by simp; omega), Same.mut e nD, ?_⟩
          have hc' : x.cps.toList[j]? = some c := by simpa using hc
          rw [upd_same, List.take_succ, hc', isW_sign]
          simp
        · rintro H' ⟨e, hD⟩
          refine ⟨_, _, rfl, SqL.of hD, ?_⟩
          have e2 : (((x.cps.toList.take x.cps.size).map fun c => decide (97 ≤ c) && decide (c ≤ 122)).all id) = isW x := by
            unfold isW
            rw [show x.cps.size = x.cps.toList.length from by simp, List.take_length]
            simp [h0, h1]
          have q := k H' e
          rw [← e2] at q
          exact q
      · have h1 : ¬ x.cps.size ≤ 8 := fun z => h1 (decide_eq_true (by show (x.length : Int) ≤ 8; omega))
        have e2 : isW x = false := by unfold isW; simp [h1]
        have q := k H (Same.refl H)
        rw [e2] at q
        exact q
    · have h0 : ¬ 1 ≤ x.cps.size := fun z => h0 (decide_eq_true (by show (1 : Int) ≤ x.length; omega))
      have e2 : isW x = false := by unfold isW; simp [h0]
      have q := k H (Same.refl H)
      rw [e2] at q
      exact ⟨false, rfl, q⟩
end
end Lm

namespace Lm
open PySem L2
/-! ### a work as it stands in the heap -/
theorem n_nw : ¬ (("name" : Str) = "words") := by decide +kernel
theorem n_ne : ¬ (("name" : Str) = "ends") := by decide +kernel
theorem n_we : ¬ (("words" : Str) = "ends") := by decide +kernel
def wkF (nm : Str) (t d : Addr) : List (Str × V) := [("name", .str nm), ("words", .ref t), ("ends", .ref d)]
theorem wk_name (nm : Str) (t d : Addr) : (wkF nm t d).lookup ("name" : Str) = some (.str nm) := by simp [wkF, List.lookup]
theorem wk_words (nm : Str) (t d : Addr) : (wkF nm t d).lookup ("words" : Str) = some (.ref t) := by
  have e : (("words" : Str) == "name") = false := by decide +kernel
  simp [wkF, List.lookup, e]
theorem wk_ends (nm : Str) (t d : Addr) : (wkF nm t d).lookup ("ends" : Str) = some (.ref d) := by
  have e : (("ends" : Str) == "name") = false := by decide +kernel
  have e2 : (("ends" : Str) == "words") = false := by decide +kernel
  simp [wkF, List.lookup, e, e2]
theorem wk_no (nm : Str) (t d : Addr) {m : Str} (h1 : (m == "name") = false) (h2 : (m == "words") = false) (h3 : (m == "ends") = false) : (wkF nm t d).lookup m = none := by simp [wkF, List.lookup, h1, h2, h3]
theorem wk_put (nm : Str) (t d : Addr) : putF "ends" (.ref d) (putF "words" (.ref t) (putF "name" (.str nm) [])) = wkF nm t d := by
  simp [putF, wkF, n_nw, n_ne, n_we]
theorem wk_l1 (nm : Str) : (putF "name" (.str nm) []).length < 1000 := by simp [putF]
theorem wk_l2 (nm : Str) (t : Addr) : (putF "words" (.ref t) (putF "name" (.str nm) [])).length < 1000 := by simp [putF, n_nw]
/-- the cuts behind the words -/
def endsL : Nat → List Str → List (Key × V)
  | _, [] => []
  | n, x :: r => (Sum.inr x, V.int ((n : Int) + 1)) :: endsL (n + 1) r
theorem endsL_len : ∀ n ws, (endsL n ws).length = ws.length
  | _, [] => rfl
  | n, x :: r => by show (endsL (n + 1) r).length + 1 = r.length + 1; rw [endsL_len]
theorem endsL_app : ∀ n ws x, endsL n (ws ++ [x]) = endsL n ws ++ [(Sum.inr x, V.int ((n : Int) + (ws.length : Int) + 1))]
  | n, [], x => by simp [endsL]
  | n, y :: r, x => by
    show _ :: endsL (n + 1) (r ++ [x]) = _ :: (endsL (n + 1) r ++ _)
    rw [endsL_app (n + 1) r x]
    congr 4
    simp only [List.length_cons]
    congr 1
    omega
theorem endsL_no : ∀ n ws (x : Str), x ∉ ws → valV (endsL n ws) (Sum.inr x : Key) = none
  | _, [], _, _ => rfl
  | n, y :: r, x, h => by
    have h1 : ¬ ((Sum.inr y : Key) = Sum.inr x) := fun e => h (by rw [← Sum.inr.inj e]; exact List.mem_cons_self)
    unfold endsL
    rw [valV_neg h1]
    exact endsL_no (n + 1) r x fun z => h (List.mem_cons_of_mem _ z)
theorem endsL_at : ∀ n ws (i : Nat) (x : Str), ws.Nodup → ws[i]? = some x → valV (endsL n ws) (Sum.inr x : Key) = some (V.int ((n : Int) + (i : Int) + 1))
  | _, [], i, _, _, h => by simp at h
  | n, y :: r, 0, x, _, h => by
    have e : y = x := Option.some.inj h
    subst e
    unfold endsL
    rw [valV_pos rfl]
    simp
  | n, y :: r, i + 1, x, nd, h => by
    have hx : r[i]? = some x := h
    have ne : ¬ ((Sum.inr y : Key) = Sum.inr x) := fun e => (List.nodup_cons.mp nd).1 (by rw [Sum.inr.inj e]; exact List.mem_of_getElem? hx)
    unfold endsL
    rw [valV_neg ne, endsL_at (n + 1) r i x (List.nodup_cons.mp nd).2 hx]
    congr 2
    omega
/-- the work of the name nm and the words ws, at a -/
structure WkAt (C : Addr) (H : Hp) (a : Addr) (nm : Str) (ws : List Str) : Prop where
  ob : ∃ dx t d, H a = some (.ins C dx (wkF nm t d)) ∧ H t = some (.tup (ws.map V.str)) ∧ H d = some (.dK (endsL 0 ws))
theorem WkAt.same {C : Addr} {H H' : Hp} {a : Addr} {nm : Str} {ws : List Str} (k : WkAt C H a nm ws) (e : Same H H') : WkAt C H' a nm ws := by
  obtain ⟨⟨dx, t, d, h1, h2, h3⟩⟩ := k
  exact ⟨⟨dx, t, d, e _ _ h1, e _ _ h2, e _ _ h3⟩⟩
/-- what stands at st changes, a list -/
theorem WkAt.kp {C st : Addr} {H H' : Hp} {a : Addr} {nm : Str} {ws : List Str} {xs : List V} (k : WkAt C H a nm ws) (e : Kp st H H') (hs : H st = some (.lst xs)) : WkAt C H' a nm ws := by
  obtain ⟨⟨dx, t, d, h1, h2, h3⟩⟩ := k
  exact ⟨⟨dx, t, d, e _ _ (ne_of h1 hs (by intro z; cases z)) h1, e _ _ (ne_of h2 hs (by intro z; cases z)) h2, e _ _ (ne_of h3 hs (by intro z; cases z)) h3⟩⟩
/-- for i, x in enumerate(a), a list or a tuple that stands still -/
theorem for_enumA {K : PySem.W.Frag} {a : Addr} {xs : List V} {g : TG} {tb : TS} {D : Ends} {σ : St} {H : Hp} (hq : SeqAt H a xs) (Pv : Nat → St → Hp → Prop) (h0 : Pv 0 σ H) (hG : ∀ i σ' H', i ≤ xs.length → Pv i σ' H' → ∀ o, H a = some o → H' a = some o)
    (hs : ∀ i x σ H H', i < xs.length → Pv i σ H → YPair (fun i => some (.int (i : Nat))) (fun i => xs[i]?) i H x H' → g x σ H' fun σ2 H2 => tb { D with nx := Pv (i + 1), ct := Pv (i + 1), bk := D.nx } σ2 H2) (hd : ∀ σ H, Pv xs.length σ H → D.nx σ H) :
    ∃ a' xs', [V.ref a] = [V.ref a'] ∧ ((SqL K H a' xs' ∧ ∃ W : Nat → Nat → St → Hp → Prop, (∃ m, W 0 m σ H) ∧ ∀ i m σ H, W i m σ H →
      ((Ite K a').stop i H ∧ D.nx σ H) ∨ ((Ite K a').go i H ∧ ∃ N : St → Hp → Prop, (∀ σ' H', N σ' H' → ∃ m', m' < m ∧ W (i + 1) m' σ' H') ∧ ∀ x H', (Ite K a').yld i H x H' → g x σ H' fun σ2 H2 => tb { D with nx := N, ct := N, bk := D.nx } σ2 H2)) ∨
      (SqT K H a' xs' ∧ ∃ W : Nat → Nat → St → Hp → Prop, (∃ m, W 0 m σ H) ∧ ∀ i m σ H, W i m σ H →
      ((IteT K a').stop i H ∧ D.nx σ H) ∨ ((IteT K a').go i H ∧ ∃ N : St → Hp → Prop, (∀ σ' H', N σ' H' → ∃ m', m' < m ∧ W (i + 1) m' σ' H') ∧ ∀ x H', (IteT K a').yld i H x H' → g x σ H' fun σ2 H2 => tb { D with nx := N, ct := N, bk := D.nx } σ2 H2))) := by
  rcases hq with hq | hq
  · exact ⟨a, xs, rfl, .inl ⟨SqL.of hq, for_it walk_enum Pv h0 (fun i σ' H' hi p => SqL.of (hG i σ' H' hi p _ hq)) hs hd⟩⟩
  · exact ⟨a, xs, rfl, .inr ⟨SqT.of hq, for_it walk_enumT Pv h0 (fun i σ' H' hi p => SqT.of (hG i σ' H' hi p _ hq)) hs hd⟩⟩
section
variable {P : Program} {w : World} {K : PySem.W.Frag} {mg : Str → Option Value} {base : Heap} {f : Addr} {fd : FuncData}
/-- what the walk asks of the class Work -/
structure WkTxt (K : PySem.W.Frag) (C : Addr) : Prop where
  cl : Cls K C
  nN : NoAttr K C "name"
  nW : NoAttr K C "words"
  nE : NoAttr K C "ends"
def spWkInit (C : Addr) : Sp := fun vs H Q _ => ∃ (p dx a : Addr) (nm : Str) (ws : List Str), vs = [.ref p, .str nm, .ref a] ∧ H p = some (.ins C dx []) ∧ SeqAt H a (ws.map V.str) ∧ isW nm = true ∧ Wds ws ws.length ∧ 0 < ws.length ∧ ws.length ≤ 60 ∧
  ∀ H', WkAt C H' p nm ws → Kp p H H' → Q .non H'
abbrev s_Work_init : Stmt := inClass (top 12) 0
theorem sc_Work_init : FnScope ["self", "name", "passages", "ends", "index", "word"] ["self", "name", "passages"] (defScope s_Work_init) := ⟨rfl, rfl, rfl, by decide +kernel, rfl, by decide +kernel, by decide +kernel⟩
theorem isW_size {x : Str} (h : isW x = true) : x.cps.size ≤ 1000 := by
  unfold isW at h
  simp at h
  omega
theorem ok_wk_init {C fI fR : Addr} {fdI fdR : FuncData} (F : Fun K "__init__" "Work.__init__" s_Work_init f fd) (T : Blt mg) (W : WkTxt K C) (D_is_word : DefOk P w K mg base 1 "is_word" fI fdI ["x"] spIsWord) (D_is_row : DefOk P w K mg base 1 "is_row" fR fdR ["x"] spIsRow) :
    FnOk P w K mg base CX0 2 f fd ["self", "name", "passages"] (spWkInit C) := by
  refine F.ok sc_Work_init (fun vs H Q E h => ?_) (fun cdv A outer s H vs Q E hr h => ?_)
  · obtain ⟨p, dx, a, nm, ws, rfl, _⟩ := h
    rfl
  · obtain ⟨p, dx, a, nm, ws, rfl, hp, hq, hnm, hw, l0, l1, k⟩ := h
    have hu := hu_of hr
    have hap : a ≠ p := by
      rcases hq with hq | hq
      · exact ne_of hq hp (by intro z; cases z)
      · exact ne_of hq hp (by intro z; cases z)
    refine ⟨_, (pss_cons (ps_if (pt_not (pt_val (pe_d D_is_word (hr.mono (by decide)) (pa_cons (pv 1) pa_nil)))) (pss_one ps_never) pss_nil)
        (pss_cons (ps_if (PW.pt (pw_or (pt_not (pt_val (pe_d D_is_row (hr.mono (by decide)) (pa_cons (pv 2) pa_nil)))) (pw_or1 (pt_cmpR op_eq (pe_callB call_len_seq (by rfl) T.b_len PySem.boot_len (pa_cons (pv 2) pa_nil)) pe_int (nomark _))))) (pss_one ps_never) pss_nil)
        (pss_cons (ps_set (i := 3) sc_Work_init.nd rfl (by first | exact Or.inl rfl | exact Or.inr rfl) pe_dnewK)
        (pss_cons (ps_for PassesOwn.never rfl (pi_enumA rfl T.b_enumerate (pa_cons (pv 2) pa_nil)) (pg_tup rfl (pgs_cons (pg_name (i := 4) sc_Work_init.nd rfl (by first | exact Or.inl rfl | exact Or.inr rfl)) (pgs_cons (pg_name (i := 5) sc_Work_init.nd rfl (by first | exact Or.inl rfl | exact Or.inr rfl)) pgs_nil))) (pss_cons (ps_if (PW.pt (pw_or (pt_not (pt_val (pe_d D_is_word (hr.mono (by decide)) (pa_cons (pv 5) pa_nil)))) (pw_or1 (pt_cmp (pc_din hu (pv 5) (pv 3)))))) (pss_one ps_never) pss_nil)
        (pss_one (ps_dput hu (pv 3) (pv 5) (pe_op op_add (pv 4) pe_int) rfl))))
        (pss_cons (ps_fld (pv 0) (pv 1) rfl)
        (pss_cons (ps_fld (pv 0) (pe_callTy call_tuple_of (by rfl) T.b_tuple (by decide +kernel) (pa_cons (pv 2) pa_nil)) rfl)
        (pss_one (ps_fld (pv 0) (pv 3) rfl)))))))), ?_⟩
    refine ⟨_, rfl, nm, rfl, isW_size hnm, fun H1 e1 => ⟨_, rfl, ?_⟩⟩
    rw [hnm]
    have hq1 : SeqAt H1 a (ws.map V.str) := hq.elim (fun h => .inl (e1 _ _ h)) fun h => .inr (e1 _ _ h)
    refine ⟨_, rfl, a, _, rfl, hq1, fun H2 e2 => ⟨_, rfl, ?_⟩⟩
    have hq2 : SeqAt H2 a (ws.map V.str) := hq1.elim (fun h => .inl (e2 _ _ h)) fun h => .inr (e2 _ _ h)
    have hl : ¬ (V.int ((ws.map V.str).length : Int) = V.int 0) := by
      intro z
      have : ((ws.map V.str).length : Int) = 0 := V.int.inj z
      rw [List.length_map] at this
      omega
    refine ⟨_, rfl, _, _, rfl, (hq2.elim (fun h => .inl (SqL.of h)) fun h => .inr (SqT.of h)), rfl, _, rfl, ?_⟩
    rw [decide_eq_false hl]
    intro d nd
    have hq3 : SeqAt (upd H2 d (.dK [])) a (ws.map V.str) := hq2.elim (fun h => .inl (Same.upd' nd _ _ h)) fun h => .inr (Same.upd' nd _ _ h)
    have eH : Same H (upd H2 d (.dK [])) := (e1.trans e2).trans (Same.upd' nd)
    have ndH : H d = none := (e1.trans e2).free nd
    have hdp : d ≠ p := (ne_of_none hp ndH).symm
    refine ⟨_, rfl, for_enumA hq3 (fun i σ' H' => ∃ u v : Option V, σ' = [some (.ref p), some (.str nm), some (.ref a), some (.ref d), u, v] ∧ H' d = some (.dK (endsL 0 (ws.take i))) ∧ ∀ b o, H b = some o → H' b = some o)
      ⟨none, none, rfl, upd_same, eH⟩ ?_ ?_ ?_⟩
    · rintro i σ' H' _ ⟨u, v, rfl, gd, e⟩ o ho
      rcases hq with hq | hq
      · rw [eH _ _ hq] at ho
        rw [← ho]; exact e _ _ hq
      · rw [eH _ _ hq] at ho
        rw [← ho]; exact e _ _ hq
    · rintro i y σ' H' H'' hi ⟨u, v, rfl, gd, e⟩ ⟨T', x1, x2, rfl, nT, rfl, hx1, hx2⟩
      cases (Option.some.inj hx1)
      have hx2 : (List.map V.str ws)[i]? = some x2 := hx2
      rw [List.getElem?_map] at hx2
      obtain ⟨x, hx, rfl⟩ : ∃ x, ws[i]? = some x ∧ V.str x = x2 := by
        cases q : ws[i]? with
        | none => rw [q] at hx2; cases hx2
        | some x => rw [q] at hx2; exact ⟨x, rfl, Option.some.inj hx2⟩
      have hTd : T' ≠ d := (ne_of_none gd nT).symm
      have gd2 : (upd H' T' (.tup [.int (i : Nat), .str x])) d = some (.dK (endsL 0 (ws.take i))) := by rw [upd_ne hTd.symm]; exact gd
      have hwx : isW x = true := hw.wd x (List.mem_of_getElem? hx)
      have hno : x ∉ ws.take i := fun z => by
        obtain ⟨j, hj, e⟩ := List.mem_iff_getElem.mp z
        rw [List.getElem_take] at e
        have hj' : j < i := by rw [List.length_take] at hj; omega
        have := nd_ix hw.nd (i := j) (j := i) (x := x) (by rw [List.getElem?_eq_getElem (by rw [List.length_take] at hj; omega), e]) hx
        omega
      refine ⟨T', _, rfl, SqT.of upd_same, rfl, _, _, rfl, _, _, rfl, rfl, ?_⟩
      refine ⟨_, rfl, x, rfl, isW_size hwx, fun H3 e3 => ⟨_, rfl, ?_⟩⟩
      rw [hwx]
      have gd3 := e3 _ _ gd2
      refine ⟨_, rfl, _, rfl, d, _, rfl, DGet.k (k := Sum.inr x) gd3, ?_⟩
      rw [endsL_no 0 _ x hno]
      refine ⟨_, rfl, ?_⟩
      refine ⟨_, rfl, _, _, rfl, rfl, _, rfl, _, rfl, d, _, rfl, DPut.k (k := Sum.inr x) gd3 (small1000 (by rw [endsL_len, List.length_take]; omega)), ?_⟩
      refine ⟨_, _, rfl, ?_, ?_⟩
      · rw [upd_same, putK_new _ (endsL_no 0 _ x hno), List.take_succ, hx, Option.toList_some, endsL_app]
        rw [List.length_take, Nat.min_eq_left (by have := (List.getElem?_eq_some_iff.mp hx).1; omega)]
        simp
      · intro b o hb
        have hbd : b ≠ d := ne_of_none hb ndH
        rw [upd_ne hbd]
        exact e3 _ _ (Same.upd' nT _ _ (e _ _ hb))
    · rintro σ' H' ⟨u, v, rfl, gd, e⟩
      rw [List.length_map, List.take_length] at gd
      have hpd : p ≠ d := hdp.symm
      -- behind the words, which lie at t
      have fin : ∀ (t : Addr) (H3 : Hp), H3 p = some (.ins C dx (putF "name" (.str nm) [])) → H3 t = some (.tup (ws.map V.str)) → H3 d = some (.dK (endsL 0 ws)) → Kp p H H3 → t ≠ p → Q .non
          (upd (upd H3 p (.ins C dx (putF "words" (.ref t) (putF "name" (.str nm) [])))) p (.ins C dx (putF "ends" (.ref d) (putF "words" (.ref t) (putF "name" (.str nm) []))))) := by
        intro t H3 g1 g2 g3 g4 htp
        refine k _ ⟨⟨dx, t, d, by rw [upd_same, wk_put], by rw [upd_ne htp, upd_ne htp]; exact g2, by rw [upd_ne hdp, upd_ne hdp]; exact g3⟩⟩ ((g4.trans (Kp.upd _ _ _)).trans (Kp.upd _ _ _))
      refine ⟨_, rfl, _, rfl, p, C, dx, _, rfl, e _ _ hp, W.cl, W.nN, by decide, ?_⟩
      have kp3 : Kp p H (upd H' p (.ins C dx (putF "name" (.str nm) []))) := (Kp.of e).trans (Kp.upd _ _ _)
      rcases hq with hq | hq
      · refine ⟨_, rfl, a, _, rfl, .inl ⟨SqL.of (kp3 _ _ hap hq), fun t nt => ?_⟩⟩
        have htp : t ≠ p := (ne_of_none upd_same nt).symm
        have htd : t ≠ d := (ne_of_none (by rw [upd_ne hdp]; exact gd) nt).symm
        have g1 : (upd (upd H' p (.ins C dx (putF "name" (.str nm) []))) t (.tup (ws.map V.str))) p = some (.ins C dx (putF "name" (.str nm) [])) := by rw [upd_ne htp.symm, upd_same]
        refine ⟨_, rfl, p, C, dx, _, rfl, g1, W.cl, W.nW, wk_l1 _, ?_⟩
        refine ⟨_, rfl, _, rfl, p, C, dx, _, rfl, upd_same, W.cl, W.nE, wk_l2 _ _, ?_⟩
        exact fin t _ g1 upd_same (by rw [upd_ne htd.symm, upd_ne hdp]; exact gd) (kp3.trans (Kp.of (Same.upd' nt))) htp
      · refine ⟨_, rfl, a, _, rfl, .inr ⟨SqT.of (kp3 _ _ hap hq), ?_⟩⟩
        refine ⟨_, rfl, p, C, dx, _, rfl, upd_same, W.cl, W.nW, wk_l1 _, ?_⟩
        refine ⟨_, rfl, _, rfl, p, C, dx, _, rfl, upd_same, W.cl, W.nE, wk_l2 _ _, ?_⟩
        exact fin a _ upd_same (kp3 _ _ hap hq) (by rw [upd_ne hdp]; exact gd) kp3 hap
end
end Lm

namespace Lm
open PySem L2
theorem valV_mem {ws : List Str} (nd : ws.Nodup) (x : Str) : (valV (endsL 0 ws) (Sum.inr x : Key)).isSome = decide (x ∈ ws) := by
  by_cases h : x ∈ ws
  · obtain ⟨i, hi, e⟩ := List.mem_iff_getElem.mp h
    rw [endsL_at 0 ws i x nd (by rw [List.getElem?_eq_getElem hi, e]), decide_eq_true h]
    rfl
  · rw [endsL_no 0 ws x h, decide_eq_false h]
    rfl
section
variable {P : Program} {w : World} {K : PySem.W.Frag} {mg : Str → Option Value} {base : Heap} {f : Addr} {fd : FuncData}
def spWkLen (C : Addr) : Sp := fun vs H Q _ => ∃ (a : Addr) (nm : Str) (ws : List Str), vs = [.ref a] ∧ WkAt C H a nm ws ∧ Q (.int ws.length) H
abbrev s_Work_len : Stmt := inClass (top 12) 4
theorem sc_Work_len : FnScope ["self"] ["self"] (defScope s_Work_len) := ⟨rfl, rfl, rfl, by decide +kernel, rfl, by decide +kernel, by decide +kernel⟩
theorem ok_wk_len {C : Addr} (F : Fun K "__len__" "Work.__len__" s_Work_len f fd) (T : Blt mg) (W : WkTxt K C) : FnOk P w K mg base CX0 1 f fd ["self"] (spWkLen C) := by
  refine F.ok sc_Work_len (fun vs H Q E h => ?_) (fun cdv A outer s H vs Q E hr h => ?_)
  · obtain ⟨a, nm, ws, rfl, _⟩ := h
    rfl
  · obtain ⟨a, nm, ws, rfl, ⟨dx, t, d, h1, h2, h3⟩, k⟩ := h
    refine ⟨_, (pss_one (ps_ret (pe_callB call_len_seq (by rfl) T.b_len PySem.boot_len (pa_cons (pe_fld (pv 0) rfl) pa_nil)))), ?_⟩
    refine ⟨_, rfl, a, C, dx, _, _, rfl, h1, W.cl, W.nW, wk_words _ _ _, t, _, rfl, .inr (SqT.of h2), ?_⟩
    rw [List.length_map]
    exact k
def spWkIn (C : Addr) : Sp := fun vs H Q _ => ∃ (a : Addr) (x nm : Str) (ws : List Str), vs = [.ref a, .str x] ∧ WkAt C H a nm ws ∧ ws.Nodup ∧ Q (.bl (decide (x ∈ ws))) H
abbrev s_Work_contains : Stmt := inClass (top 12) 5
theorem sc_Work_contains : FnScope ["self", "x"] ["self", "x"] (defScope s_Work_contains) := ⟨rfl, rfl, rfl, by decide +kernel, rfl, by decide +kernel, by decide +kernel⟩
theorem ok_wk_in {C : Addr} (F : Fun K "__contains__" "Work.__contains__" s_Work_contains f fd) (T : Blt mg) (W : WkTxt K C) : FnOk P w K mg base CX0 1 f fd ["self", "x"] (spWkIn C) := by
  refine F.ok sc_Work_contains (fun vs H Q E h => ?_) (fun cdv A outer s H vs Q E hr h => ?_)
  · obtain ⟨a, x, nm, ws, rfl, _⟩ := h
    rfl
  · obtain ⟨a, x, nm, ws, rfl, ⟨dx, t, d, h1, h2, h3⟩, nd, k⟩ := h
    have hu := hu_of hr
    refine ⟨_, (pss_one (ps_ret (pe_and (pe_callB call_isi (by rfl) T.b_isinstance (by decide +kernel) (pa_cons (pv 1) (pa_cons (pe_bltn (v := .ty "str") (u := .type "str") (by rfl) T.b_str (by decide +kernel) rfl) pa_nil))) (pe_one (pe_cmp (pc_din hu (pv 1) (pe_fld (pv 0) rfl)) rfl))))), ?_⟩
    refine ⟨_, rfl, _, _, _, _, true, rfl, .ty _, .base (.str x), kit_ty (by decide +kernel), true, rfl, ?_⟩
    refine ⟨_, rfl, _, rfl, a, C, dx, _, _, rfl, h1, W.cl, W.nE, wk_ends _ _ _, d, _, rfl, DGet.k (k := Sum.inr x) h3, ?_⟩
    rw [valV_mem nd]
    exact k
def spWkEnd (C : Addr) : Sp := fun vs H Q _ => ∃ (a : Addr) (x nm : Str) (ws : List Str) (i : Nat), vs = [.ref a, .str x] ∧ WkAt C H a nm ws ∧ ws.Nodup ∧ ws[i]? = some x ∧ Q (.int ((i : Int) + 1)) H
abbrev s_Work_end_of : Stmt := inClass (top 12) 3
theorem sc_Work_end_of : FnScope ["self", "word"] ["self", "word"] (defScope s_Work_end_of) := ⟨rfl, rfl, rfl, by decide +kernel, rfl, by decide +kernel, by decide +kernel⟩
theorem ok_wk_end {C fI : Addr} {fdI : FuncData} (F : Fun K "end_of" "Work.end_of" s_Work_end_of f fd) (T : Blt mg) (W : WkTxt K C) (M_Work_contains : MetOk P w K mg base 1 C "__contains__" fI fdI ["self", "x"] (spWkIn C)) : FnOk P w K mg base CX0 2 f fd ["self", "word"] (spWkEnd C) := by
  refine F.ok sc_Work_end_of (fun vs H Q E h => ?_) (fun cdv A outer s H vs Q E hr h => ?_)
  · obtain ⟨a, x, nm, ws, i, rfl, _⟩ := h
    rfl
  · obtain ⟨a, x, nm, ws, i, rfl, kw, nd, hi, k⟩ := h
    obtain ⟨dx, t, d, h1, h2, h3⟩ := kw.ob
    have hu := hu_of hr
    have hx : x ∈ ws := List.mem_of_getElem? hi
    refine ⟨_, (pss_one (ps_ret (pe_ifExp (pt_cmpR (M_Work_contains.isin (hr.mono (by decide))) (pv 1) (pv 0) (by rfl)) (pe_dget hu (pe_fld (pv 0) rfl) (pv 1) (fun _ _ => rfl)) pe_int))), ?_⟩
    refine ⟨_, rfl, _, rfl, a, dx, _, rfl, h1, a, x, nm, ws, rfl, kw, nd, _, rfl, ?_⟩
    rw [decide_eq_true hx]
    refine ⟨_, rfl, ?_⟩
    have hg : DGet H d (.str x) (some (.int (((0 : Nat) : Int) + (i : Int) + 1))) := by
      have := DGet.k (k := Sum.inr x) h3
      rw [endsL_at 0 ws i x nd hi] at this
      exact this
    have e0 : ((0 : Nat) : Int) + (i : Int) + 1 = (i : Int) + 1 := by omega
    rw [e0] at hg
    exact ⟨_, rfl, a, C, dx, _, _, rfl, h1, W.cl, W.nE, wk_ends _ _ _, _, rfl, d, _, rfl, hg, k⟩
/-! ### == -/
theorem dpAll_strs {H : Hp} : ∀ ws : List Str, DpAll K H (ws.map V.str) (ws.map PyData.str)
  | [] => .nil
  | x :: r => .cons (.str x) (dpAll_strs r)
theorem isW_ok {x : Str} (h : isW x = true) : PyData.strOk x = true := by
  unfold isW at h
  simp only [Bool.and_eq_true, List.all_eq_true, decide_eq_true_eq] at h
  unfold PyData.strOk
  rw [Array.all_eq_true']
  intro c hc
  have := (h.2 c (by simpa using hc)).2
  simp
  omega
theorem depth_strs : ∀ ws : List Str, PyData.depthAll (ws.map PyData.str) = 0
  | [] => rfl
  | x :: r => by
    show max (PyData.depth (.str x)) (PyData.depthAll (r.map PyData.str)) = 0
    rw [depth_strs r]
    rfl
theorem lay_strs : ∀ ws : List Str, (∀ x ∈ ws, isW x = true) → PyData.canLayAll0 (ws.map PyData.str) = true
  | [], _ => rfl
  | x :: r, h => by
    show (PyData.strOk x && PyData.canLayAll0 (r.map PyData.str)) = true
    rw [isW_ok (h x List.mem_cons_self), lay_strs r fun y hy => h y (List.mem_cons_of_mem _ hy)]
    rfl
theorem shaped_strs (ws : List Str) (h : ∀ x ∈ ws, isW x = true) : PySem.SeqAt.shaped (.tuple (ws.map PyData.str)) = true := by
  show (PyData.canLayAll0 (ws.map PyData.str) && decide (PyData.depthAll (ws.map PyData.str) + 1 ≤ 64)) = true
  rw [lay_strs ws h, depth_strs]
  rfl
theorem eqvAll_strs : ∀ ws vs : List Str, PyData.eqvAll (ws.map PyData.str) (vs.map PyData.str) = decide (ws = vs)
  | [], [] => rfl
  | [], _ :: _ => rfl
  | _ :: _, [] => rfl
  | x :: r, y :: t => by
    show ((x == y) && PyData.eqvAll (r.map PyData.str) (t.map PyData.str)) = decide (x :: r = y :: t)
    rw [eqvAll_strs r t]
    by_cases h1 : x = y <;> by_cases h2 : r = t <;> simp [h1, h2]
theorem eqv_strs (ws vs : List Str) : PyData.eqv (.tuple (ws.map PyData.str)) (.tuple (vs.map PyData.str)) = decide (ws = vs) := eqvAll_strs ws vs
def spWkEq (C : Addr) : Sp := fun vs H Q _ => ∃ (a b : Addr) (nm nm' : Str) (ws ws' : List Str), vs = [.ref a, .ref b] ∧ WkAt C H a nm ws ∧ WkAt C H b nm' ws' ∧ (∀ x ∈ ws, isW x = true) ∧ (∀ x ∈ ws', isW x = true) ∧ Q (.bl (decide (nm = nm' ∧ ws = ws'))) H
structure WkIsi (K : PySem.W.Frag) (mg : Str → Option Value) (C : Addr) : Prop where
  g_Work : mg "Work" = some (.ref C)
  ha : PySem.W.findIn K (.ref C) "__class__" = some (some (.builtin "object.__class__"))
  hn : PySem.W.specialIn K (.builtin "object.__class__") "__get__" = some (some (.builtin "getset_descriptor.__get__"))
  htk : PySem.W.takesIn K (.builtin "object.__class__") = some true
  hm : PySem.W.mroIn K C (.type "object") = some true
  ko : PySem.W.kitOne K (.ref C) (.ref C) = some true
abbrev s_Work_eq : Stmt := inClass (top 12) 6
theorem sc_Work_eq : FnScope ["self", "other"] ["self", "other"] (defScope s_Work_eq) := ⟨rfl, rfl, rfl, by decide +kernel, rfl, by decide +kernel, by decide +kernel⟩
theorem ok_wk_eq {C : Addr} (F : Fun K "__eq__" "Work.__eq__" s_Work_eq f fd) (T : Blt mg) (W : WkTxt K C) (T' : WkIsi K mg C) : FnOk P w K mg base CX0 1 f fd ["self", "other"] (spWkEq C) := by
  refine F.ok sc_Work_eq (fun vs H Q E h => ?_) (fun cdv A outer s H vs Q E hr h => ?_)
  · obtain ⟨a, b, nm, nm', ws, ws', rfl, _⟩ := h
    rfl
  · obtain ⟨a, b, nm, nm', ws, ws', rfl, ⟨dx, t, d, h1, h2, h3⟩, ⟨dy, t', d', g1, g2, g3⟩, l1, l2, k⟩ := h
    refine ⟨_, (pss_one (ps_ret (pe_and (pe_callB call_isi (by rfl) T.b_isinstance (by decide +kernel) (pa_cons (pv 1) (pa_cons (pe_glob (v := .ref _) rfl T'.g_Work rfl) pa_nil))) (pe_and (pe_cmpR op_eq (pe_fld (pv 0) rfl) (pe_fld (pv 1) rfl) (nomark _)) (pe_one (pe_cmpR (op_eqD hr.units) (pe_fld (pv 0) rfl) (pe_fld (pv 1) rfl) (nomark _))))))), ?_⟩
    refine ⟨_, rfl, _, _, _, _, true, rfl, .own C, .base (.ins g1 W.cl T'.ha T'.hn T'.htk T'.hm), T'.ko, true, rfl, ?_⟩
    refine ⟨_, rfl, a, C, dx, _, _, rfl, h1, W.cl, W.nN, wk_name _ _ _, _, rfl, b, C, dy, _, _, rfl, g1, W.cl, W.nN, wk_name _ _ _, rfl, _, rfl, ite2 (fun hn => ?_) (fun hn => ?_)⟩
    · have hn : nm = nm' := V.str.inj (of_decide_eq_true hn)
      refine ⟨_, rfl, a, C, dx, _, _, rfl, h1, W.cl, W.nW, wk_words _ _ _, _, rfl, b, C, dy, _, _, rfl, g1, W.cl, W.nW, wk_words _ _ _, _, _, .tup (SqT.of h2) (dpAll_strs ws), .tup (SqT.of g2) (dpAll_strs ws'), shaped_strs ws l1, shaped_strs ws' l2, ?_⟩
      have e : decide (nm = nm' ∧ ws = ws') = decide (ws = ws') := by simp [hn]
      rw [e] at k
      rw [eqv_strs]
      exact k
    · have hn : ¬ nm = nm' := fun z => hn (decide_eq_true (congrArg V.str z))
      have e : decide (nm = nm' ∧ ws = ws') = false := by simp [hn]
      rw [e] at k
      exact k
end
end Lm

namespace Lm
open PySem L2
/-! ### editions as truths over the numbers of the passages -/
def idx (N : Nat) (S : Nat → Bool) : List Nat := (List.range N).filter S
def cnt (S : Nat → Bool) (c : Nat) : Nat := (idx c S).length
def cutsL (N : Nat) (S : Nat → Bool) : List Nat := 0 :: (idx N S).map (· + 1)
def countsL (N : Nat) (S : Nat → Bool) : List Nat := (List.range (N + 1)).map (cnt S)
def ker (S : Nat → Bool) : Nat → Nat
  | 0 => 0
  | c + 1 => if S c = true then c + 1 else ker S c
def no : Str := ⟨#[]⟩
def pick (ws : List Str) (S : Nat → Bool) : List Str := (idx ws.length S).map fun i => ws.getD i no
theorem idx_mem {N : Nat} {S : Nat → Bool} {i : Nat} : i ∈ idx N S ↔ i < N ∧ S i = true := by unfold idx; rw [List.mem_filter, List.mem_range]
theorem idx_sorted (N : Nat) (S : Nat → Bool) : (idx N S).Pairwise (· < ·) := List.Pairwise.filter _ List.pairwise_lt_range
theorem idx_succ (c : Nat) (S : Nat → Bool) : idx (c + 1) S = idx c S ++ (if S c = true then [c] else []) := by
  unfold idx
  rw [List.range_succ, List.filter_append]
  by_cases h : S c = true <;> simp [h]
theorem idx_len (N : Nat) (S : Nat → Bool) : (idx N S).length ≤ N := by
  unfold idx
  exact Nat.le_trans (List.length_filter_le _ _) (by simp)
theorem cnt_zero (S : Nat → Bool) : cnt S 0 = 0 := rfl
theorem cnt_succ (S : Nat → Bool) (c : Nat) : cnt S (c + 1) = cnt S c + if S c = true then 1 else 0 := by
  unfold cnt
  rw [idx_succ, List.length_append]
  by_cases h : S c = true <;> simp [h]
theorem cnt_mono {S : Nat → Bool} {a b : Nat} (h : a ≤ b) : cnt S a ≤ cnt S b := by
  induction b with
  | zero => have : a = 0 := by omega
            subst this; exact Nat.le_refl _
  | succ b ih =>
    rcases Nat.lt_or_ge a (b + 1) with h1 | h1
    · have := ih (by omega)
      rw [cnt_succ]; omega
    · have : a = b + 1 := by omega
      subst this; exact Nat.le_refl _
theorem idx_pre (S : Nat → Bool) (c d : Nat) : ∃ t, idx (c + d) S = idx c S ++ t := by
  unfold idx
  exact ⟨_, by rw [List.range_add, List.filter_append]⟩
theorem cutsL_len (N : Nat) (S : Nat → Bool) : (cutsL N S).length = cnt S N + 1 := by unfold cutsL cnt; simp
theorem cutsL_succ (c : Nat) (S : Nat → Bool) : cutsL (c + 1) S = cutsL c S ++ (if S c = true then [c + 1] else []) := by
  unfold cutsL
  rw [idx_succ]
  by_cases h : S c = true <;> simp [h]
theorem cuts_last (S : Nat → Bool) : ∀ c, (cutsL c S)[cnt S c]? = some (ker S c)
  | 0 => rfl
  | c + 1 => by
    rw [cutsL_succ, cnt_succ]
    by_cases h : S c = true
    · have hl := cutsL_len c S
      rw [if_pos h, if_pos h, List.getElem?_append_right (by omega), hl, Nat.sub_self]
      show some (c + 1) = some (ker S (c + 1))
      unfold ker
      rw [if_pos h]
    · rw [if_neg h, if_neg h, List.append_nil, Nat.add_zero, cuts_last S c]
      show some (ker S c) = some (ker S (c + 1))
      rw [show ker S (c + 1) = ker S c from by rw [ker]; exact if_neg h]
theorem cuts_at {N c : Nat} (S : Nat → Bool) (h : c ≤ N) : (cutsL N S)[cnt S c]? = some (ker S c) := by
  obtain ⟨t, ht⟩ := idx_pre S c (N - c)
  have e : c + (N - c) = N := by omega
  rw [e] at ht
  have e2 : cutsL N S = cutsL c S ++ t.map (· + 1) := by
    unfold cutsL
    rw [ht]
    simp
  rw [e2, List.getElem?_append_left (by rw [cutsL_len]; omega)]
  exact cuts_last S c
theorem cuts_mem {N c : Nat} {S : Nat → Bool} : c + 1 ∈ cutsL N S ↔ c < N ∧ S c = true := by
  unfold cutsL
  simp only [List.mem_cons, List.mem_map]
  constructor
  · rintro (h | ⟨a, ha, e⟩)
    · omega
    · have : a = c := by omega
      subst this; exact idx_mem.mp ha
  · intro h
    exact .inr ⟨c, idx_mem.mpr h, rfl⟩
theorem counts_at' {N c : Nat} (S : Nat → Bool) (h : c ≤ N) : (countsL N S)[c]? = some (cnt S c) := by
  unfold countsL
  rw [List.getElem?_map, List.getElem?_range (by omega)]
  rfl
/-! ### kernels -/
theorem ker_le (S : Nat → Bool) : ∀ c, ker S c ≤ c
  | 0 => Nat.le_refl _
  | c + 1 => by
    unfold ker
    by_cases h : S c = true
    · rw [if_pos h]; exact Nat.le_refl _
    · rw [if_neg h]; exact Nat.le_succ_of_le (ker_le S c)
theorem ker_fix (S : Nat → Bool) : ∀ c, ker S c = c ↔ c = 0 ∨ ∃ d, c = d + 1 ∧ S d = true
  | 0 => by simp [ker]
  | c + 1 => by
    have hl := ker_le S c
    unfold ker
    by_cases h : S c = true
    · simp [h]
    · simp [h]
      omega
theorem ker_idem (S : Nat → Bool) : ∀ c, ker S (ker S c) = ker S c
  | 0 => rfl
  | c + 1 => by
    by_cases h : S c = true
    · have e : ker S (c + 1) = c + 1 := by rw [ker]; exact if_pos h
      rw [e, e]
    · have e : ker S (c + 1) = ker S c := by rw [ker]; exact if_neg h
      rw [e]; exact ker_idem S c
theorem ker_mono1 (S : Nat → Bool) (c : Nat) : ker S c ≤ ker S (c + 1) := by
  rw [ker]
  have := ker_le S c
  split <;> omega
theorem ker_mono (S : Nat → Bool) {a b : Nat} (h : a ≤ b) : ker S a ≤ ker S b := by
  induction b with
  | zero => have : a = 0 := by omega
            subst this; exact Nat.le_refl _
  | succ b ih =>
    rcases Nat.lt_or_ge a (b + 1) with h1 | h1
    · exact Nat.le_trans (ih (by omega)) (ker_mono1 S b)
    · have : a = b + 1 := by omega
      subst this; exact Nat.le_refl _
/-- the greatest cut not above at which the edition stands -/
theorem ker_ge {S : Nat → Bool} {d c : Nat} (h : d ≤ c) (hd : ker S d = d) : d ≤ ker S c := by
  have := ker_mono S h
  omega
theorem ker_or (S T : Nat → Bool) : ∀ c, ker (fun i => S i || T i) c = max (ker S c) (ker T c)
  | 0 => rfl
  | c + 1 => by
    have h1 := ker_le S c
    have h2 := ker_le T c
    have ih := ker_or S T c
    unfold ker
    by_cases a : S c = true <;> by_cases b : T c = true <;> simp [a, b, ih] <;> omega
theorem ker_congr {S T : Nat → Bool} : ∀ c, (∀ i < c, S i = T i) → ker S c = ker T c
  | 0, _ => rfl
  | c + 1, h => by
    unfold ker
    rw [h c (by omega), ker_congr c fun i hi => h i (by omega)]
theorem ker_all : ∀ c, ker (fun _ => true) c = c
  | 0 => rfl
  | c + 1 => by simp [ker]
theorem ker_none : ∀ c, ker (fun _ => false) c = 0
  | 0 => rfl
  | c + 1 => by
    rw [ker]
    simp [ker_none c]
theorem ker_sub {S T : Nat → Bool} {N : Nat} : (∀ i < N, S i = true → T i = true) ↔ ∀ c ≤ N, ker S c ≤ ker T c := by
  constructor
  · intro h c hc
    have h1 : ker T (ker S c) = ker S c := by
      rw [ker_fix]
      rcases (ker_fix S (ker S c)).mp (ker_idem S c) with e | ⟨d, e, hd⟩
      · exact .inl e
      · have := ker_le S c
        exact .inr ⟨d, e, h d (by omega) hd⟩
    exact ker_ge (ker_le S c) h1
  · intro h i hi hS
    have h1 := h (i + 1) (by omega)
    have h2 : ker S (i + 1) = i + 1 := by rw [ker]; exact if_pos hS
    have h3 := ker_le T (i + 1)
    have h4 : ker T (i + 1) = i + 1 := by omega
    rcases (ker_fix T (i + 1)).mp h4 with e | ⟨d, e, hd⟩
    · omega
    · have : d = i := by omega
      subst this; exact hd
/-- so many passages end at a cut at most just if the cut is at least behind them -/
theorem cuts_le_iff {N c n : Nat} {S : Nat → Bool} {x : Nat} (hc : c ≤ N) (h : (cutsL N S)[n]? = some x) : x ≤ c ↔ n ≤ cnt S c := by
  have srt : (cutsL N S).Pairwise (· < ·) := by
    unfold cutsL
    refine List.pairwise_cons.mpr ⟨fun a ha => ?_, ?_⟩
    · obtain ⟨b, _, e⟩ := List.mem_map.mp ha
      omega
    · refine List.Pairwise.map _ (fun a b hab => ?_) (idx_sorted N S)
      omega
  have hk := cuts_at S hc
  obtain ⟨l1, e1⟩ := List.getElem?_eq_some_iff.mp h
  obtain ⟨l2, e2⟩ := List.getElem?_eq_some_iff.mp hk
  have hkl := ker_le S c
  constructor
  · intro hx
    rcases Nat.lt_or_ge (cnt S c) n with hn | hn
    · exfalso
      have h1 := List.pairwise_iff_getElem.mp srt (cnt S c) n l2 l1 hn
      rw [e1, e2] at h1
      -- x stands in S and is at most c, so it is at most the kernel
      cases n with
      | zero => omega
      | succ n =>
        have h2 : x ∈ (idx N S).map (· + 1) := by
          unfold cutsL at h
          have : ((idx N S).map (· + 1))[n]? = some x := h
          exact List.mem_of_getElem? this
        obtain ⟨d, hd, e⟩ := List.mem_map.mp h2
        have e : d + 1 = x := e
        have h3 : ker S x = x := (ker_fix S x).mpr (.inr ⟨d, e.symm, (idx_mem.mp hd).2⟩)
        have := ker_ge hx h3
        omega
    · exact hn
  · intro hn
    rcases Nat.lt_or_ge n (cnt S c) with h1 | h1
    · have h2 := List.pairwise_iff_getElem.mp srt n (cnt S c) l1 l2 h1
      rw [e1, e2] at h2
      omega
    · have : n = cnt S c := by omega
      subst this
      rw [hk] at h
      have := Option.some.inj h
      omega
theorem cnt_cuts {N n : Nat} {S : Nat → Bool} {x : Nat} (h : (cutsL N S)[n]? = some x) : x ≤ N ∧ cnt S x = n := by
  have hn : n ≤ cnt S N := by
    have := (List.getElem?_eq_some_iff.mp h).1
    rw [cutsL_len] at this
    omega
  have hx : x ≤ N := (cuts_le_iff (Nat.le_refl N) h).mpr hn
  refine ⟨hx, ?_⟩
  have h1 := (cuts_le_iff hx h).mp (Nat.le_refl _)
  rcases Nat.lt_or_ge n (cnt S x) with h2 | h2
  · exfalso
    have hk := cuts_at S hx
    have h3 := (cuts_le_iff (c := x) hx (n := n + 1) (x := (cutsL N S).getD (n + 1) 0) ?_).mpr h2
    · have srt : (cutsL N S).Pairwise (· < ·) := by
        unfold cutsL
        refine List.pairwise_cons.mpr ⟨fun a ha => ?_, ?_⟩
        · obtain ⟨b, _, e⟩ := List.mem_map.mp ha
          omega
        · refine List.Pairwise.map _ (fun a b hab => ?_) (idx_sorted N S)
          omega
      have l2 : n + 1 < (cutsL N S).length := by
        have := (List.getElem?_eq_some_iff.mp hk).1
        omega
      obtain ⟨l1, e1⟩ := List.getElem?_eq_some_iff.mp h
      have h4 := List.pairwise_iff_getElem.mp srt n (n + 1) l1 l2 (by omega)
      rw [List.getD_eq_getElem?_getD, List.getElem?_eq_getElem l2] at h3
      simp at h3
      omega
    · have l2 : n + 1 < (cutsL N S).length := by
        have := (List.getElem?_eq_some_iff.mp hk).1
        omega
      rw [List.getD_eq_getElem?_getD, List.getElem?_eq_getElem l2]
      rfl
  · omega
end Lm

namespace Lm
open PySem L2
def nts (l : List Nat) : List V := l.map fun n : Nat => V.int n
theorem nts_len (l : List Nat) : (nts l).length = l.length := List.length_map ..
theorem nts_at {l : List Nat} {i n : Nat} (h : l[i]? = some n) : (nts l)[i]? = some (V.int n) := by
  unfold nts
  rw [List.getElem?_map, h]
  rfl
theorem nts_flat (l : List Nat) : (nts l).all flatV = true := by
  unfold nts
  rw [List.all_eq_true]
  intro x hx
  obtain ⟨n, _, rfl⟩ := List.mem_map.mp hx
  rfl
theorem nts_in (l : List Nat) (n : Nat) : inV (.int n) (nts l) = decide (n ∈ l) := by
  unfold inV nts
  induction l with
  | nil => rfl
  | cons a r ih =>
    rw [List.map_cons, List.any_cons, ih]
    show ((a : Int) == (n : Int) || decide (n ∈ r)) = decide (n ∈ a :: r)
    by_cases h : a = n
    · subst h; simp
    · have h2 : ¬ (a : Int) = (n : Int) := fun z => h (by omega)
      have h3 : ¬ n = a := fun z => h z.symm
      simp [h2, h3]
theorem strs_flat (l : List Str) : (l.map V.str).all flatV = true := by
  rw [List.all_eq_true]
  intro x hx
  obtain ⟨n, _, rfl⟩ := List.mem_map.mp hx
  rfl
theorem strs_in (l : List Str) (x : Str) : inV (.str x) (l.map V.str) = decide (x ∈ l) := by
  unfold inV
  induction l with
  | nil => rfl
  | cons a r ih =>
    rw [List.map_cons, List.any_cons, ih]
    show ((a == x) || decide (x ∈ r)) = decide (x ∈ a :: r)
    by_cases h : a = x
    · subst h; simp
    · have h3 : ¬ x = a := fun z => h z.symm
      simp [h, h3]
section
variable {P : Program} {w : World} {K : PySem.W.Frag} {mg : Str → Option Value} {base : Heap} {f : Addr} {fd : FuncData}
def spCuts (C : Addr) : Sp := fun vs H Q _ => ∃ (wk a : Addr) (nm : Str) (ws : List Str) (S : Nat → Bool), vs = [.ref wk, .ref a] ∧ WkAt C H wk nm ws ∧ ws.Nodup ∧ ws.length ≤ 60 ∧ SeqAt H a ((pick ws S).map V.str) ∧
  ∀ p H', H p = none → Same H H' → H' p = some (.lst (nts (cutsL ws.length S))) → Q (.ref p) H'
abbrev s_cuts_behind : Stmt := top 14
theorem sc_cuts_behind : FnScope ["work", "passages", "cuts", "index", "word", "cut"] ["work", "passages"] (defScope s_cuts_behind) := ⟨rfl, rfl, rfl, by decide +kernel, rfl, by decide +kernel, by decide +kernel⟩
theorem ok_cuts {C fR fE : Addr} {fdR fdE : FuncData} (F : Fun K "cuts_behind" "cuts_behind" s_cuts_behind f fd) (T : Blt mg) (D_is_row : DefOk P w K mg base 1 "is_row" fR fdR ["x"] spIsRow) (M_Work_end_of : MetOk P w K mg base 2 C "end_of" fE fdE ["self", "word"] (spWkEnd C)) :
    FnOk P w K mg base CX0 3 f fd ["work", "passages"] (spCuts C) := by
  refine F.ok sc_cuts_behind (fun vs H Q E h => ?_) (fun cdv A outer s H vs Q E hr h => ?_)
  · obtain ⟨wk, a, nm, ws, S, rfl, _⟩ := h
    rfl
  · obtain ⟨wk, a, nm, ws, S, rfl, kw, nd, l1, hq, k⟩ := h
    refine ⟨_, (pss_cons (ps_if (pt_not (pt_val (pe_d D_is_row (hr.mono (by decide)) (pa_cons (pv 1) pa_nil)))) (pss_one ps_never) pss_nil)
        (pss_cons (ps_set (i := 2) sc_cuts_behind.nd rfl (by first | exact Or.inl rfl | exact Or.inr rfl) (pe_lst (pa_cons pe_int pa_nil)))
        (pss_cons (ps_for PassesOwn.never rfl (pi_enumA rfl T.b_enumerate (pa_cons (pv 1) pa_nil)) (pg_tup rfl (pgs_cons (pg_name (i := 3) sc_cuts_behind.nd rfl (by first | exact Or.inl rfl | exact Or.inr rfl)) (pgs_cons (pg_name (i := 4) sc_cuts_behind.nd rfl (by first | exact Or.inl rfl | exact Or.inr rfl)) pgs_nil))) (pss_cons (ps_set (i := 5) sc_cuts_behind.nd rfl (by first | exact Or.inl rfl | exact Or.inr rfl) (pe_m M_Work_end_of (hr.mono (by decide)) (pv 0) (pa_cons (pv 4) pa_nil)))
        (pss_cons (ps_if (pt_cmpR op_le (pv 5) (pe_ix ix_list (pv 2) (pe_un un_neg pe_int) (fun _ _ => rfl)) (nomark _)) (pss_one ps_never) pss_nil)
        (pss_one (ps_expr (pe_bm PySem.F.plainAttrs_list PySem.F.slot_list_append PySem.F.type_list_append mt_append (pv 2) (pa_cons (pv 5) pa_nil)))))))
        (pss_one (ps_ret (pv 2)))))), ?_⟩
    refine ⟨_, rfl, a, _, rfl, hq, fun H1 e1 => ⟨_, rfl, ?_⟩⟩
    have hq1 : SeqAt H1 a ((pick ws S).map V.str) := hq.elim (fun h => .inl (e1 _ _ h)) fun h => .inr (e1 _ _ h)
    refine ⟨by show 1 ≤ sizeLine; decide, fun p np => ?_⟩
    have npH : H p = none := e1.free np
    have hq2 : SeqAt (upd H1 p (.lst [.int 0])) a ((pick ws S).map V.str) := hq1.elim (fun h => .inl (Same.upd' np _ _ h)) fun h => .inr (Same.upd' np _ _ h)
    have e2 : Same H (upd H1 p (.lst [.int 0])) := e1.trans (Same.upd' np)
    have hl : ((pick ws S).map V.str).length = (idx ws.length S).length := by rw [List.length_map]; unfold pick; rw [List.length_map]
    refine ⟨_, rfl, for_enumA hq2 (fun i σ' H' => ∃ u v x : Option V, σ' = [some (.ref wk), some (.ref a), some (.ref p), u, v, x] ∧ H' p = some (.lst (nts (0 :: ((idx ws.length S).take i).map (· + 1)))) ∧ Same H H')
      ⟨none, none, none, rfl, upd_same, e2⟩ ?_ ?_ ?_⟩
    · rintro i σ' H' _ ⟨u, v, x, rfl, gp, e⟩ o ho
      rcases hq with hq | hq
      · rw [e2 _ _ hq] at ho
        rw [← ho]; exact e _ _ hq
      · rw [e2 _ _ hq] at ho
        rw [← ho]; exact e _ _ hq
    · rintro i y σ' H' H'' hi ⟨u, v, x, rfl, gp, e⟩ ⟨T', x1, x2, rfl, nT, rfl, hx1, hx2⟩
      cases (Option.some.inj hx1)
      have hx2 : ((pick ws S).map V.str)[i]? = some x2 := hx2
      rw [hl] at hi
      obtain ⟨j, hj⟩ : ∃ j, (idx ws.length S)[i]? = some j := ⟨_, List.getElem?_eq_getElem hi⟩
      have hjm := idx_mem.mp (List.mem_of_getElem? hj)
      unfold pick at hx2
      rw [List.map_map, List.getElem?_map, hj] at hx2
      cases (Option.some.inj hx2)
      have hw : ws[j]? = some (ws.getD j no) := by
        rw [List.getD_eq_getElem?_getD, List.getElem?_eq_getElem hjm.1]
        rfl
      have hTp : T' ≠ p := (ne_of_none gp nT).symm
      have e3 : Same H (upd H' T' (.tup [.int (i : Nat), .str (ws.getD j no)])) := e.trans (Same.upd' nT)
      have kw3 := kw.same e3
      obtain ⟨dx, t, d, o1, o2, o3⟩ := kw3.ob
      refine ⟨T', _, rfl, SqT.of upd_same, rfl, _, _, rfl, _, _, rfl, rfl, ?_⟩
      refine ⟨_, rfl, wk, dx, _, rfl, o1, wk_no _ _ _ (by decide +kernel) (by decide +kernel) (by decide +kernel), _, rfl, wk, _, nm, ws, j, rfl, kw3, nd, hw, ?_⟩
      have gp2 : (upd H' T' (.tup [.int (i : Nat), .str (ws.getD j no)])) p = some (.lst (nts (0 :: ((idx ws.length S).take i).map (· + 1)))) := by rw [upd_ne hTp.symm]; exact gp
      -- the last cut is less
      obtain ⟨pre, z, hz, hlt⟩ : ∃ (pre : List V) (z : Nat), nts (0 :: ((idx ws.length S).take i).map (· + 1)) = pre ++ [.int z] ∧ z < j + 1 := by
        cases i with
        | zero => exact ⟨[], 0, rfl, by omega⟩
        | succ i =>
          obtain ⟨j', hj'⟩ : ∃ j', (idx ws.length S)[i]? = some j' := ⟨_, List.getElem?_eq_getElem (by omega)⟩
          have hlt : j' < j := by
            obtain ⟨a1, b1⟩ := List.getElem?_eq_some_iff.mp hj'
            obtain ⟨a2, b2⟩ := List.getElem?_eq_some_iff.mp hj
            have := List.pairwise_iff_getElem.mp (idx_sorted ws.length S) i (i + 1) a1 a2 (by omega)
            rw [b1, b2] at this
            exact this
          refine ⟨nts (0 :: ((idx ws.length S).take i).map (· + 1)), j' + 1, ?_, by omega⟩
          rw [List.take_succ, hj']
          simp [nts]
      have hnl : decide ((((j : Int) + 1)) ≤ (z : Int)) = false := decide_eq_false (by omega)
      refine ⟨_, rfl, _, rfl, _, rfl, _, _, _, _, rfl, rfl, SqL.of gp2, by rw [hz]; exact atI_last _ _, _, _, rfl, rfl, _, rfl, ?_⟩
      rw [hnl]
      refine ⟨_, rfl, .inl ⟨rfl, _, SqL.of gp2⟩, _, rfl, _, _, _, rfl, rfl, gp2, small1000 (by rw [nts_len]; simp; have := idx_len ws.length S; omega), ?_⟩
      refine ⟨_, _, _, rfl, ?_, Same.mut e3 npH⟩
      rw [upd_same, List.take_succ, hj]
      simp [nts]
    · rintro σ' H' ⟨u, v, x, rfl, gp, e⟩
      rw [hl, List.take_length] at gp
      exact ⟨_, rfl, k p H' npH e gp⟩
def spCounts : Sp := fun vs H Q _ => ∃ (c : Addr) (N : Nat) (S : Nat → Bool), vs = [.ref c, .int N] ∧ H c = some (.lst (nts (cutsL N S))) ∧ N ≤ 60 ∧ ∀ p H', H p = none → Same H H' → H' p = some (.lst (nts (countsL N S))) → Q (.ref p) H'
abbrev s_counts_at : Stmt := top 15
theorem sc_counts_at : FnScope ["cuts", "length", "counts", "cut"] ["cuts", "length"] (defScope s_counts_at) := ⟨rfl, rfl, rfl, by decide +kernel, rfl, by decide +kernel, by decide +kernel⟩
theorem ok_counts (F : Fun K "counts_at" "counts_at" s_counts_at f fd) (T : Blt mg) : FnOk P w K mg base CX0 1 f fd ["cuts", "length"] spCounts := by
  refine F.ok sc_counts_at (fun vs H Q E h => ?_) (fun cdv A outer s H vs Q E hr h => ?_)
  · obtain ⟨c, N, S, rfl, _⟩ := h
    rfl
  · obtain ⟨c, N, S, rfl, hc, hN, k⟩ := h
    refine ⟨_, (pss_cons (ps_set (i := 2) sc_counts_at.nd rfl (by first | exact Or.inl rfl | exact Or.inr rfl) (pe_lst (pa_cons pe_int pa_nil)))
        (pss_cons (ps_for PassesOwn.never rfl (pi_range2 rfl T.b_range (pa_cons pe_int (pa_cons (pe_op op_add (pv 1) pe_int) pa_nil))) (pg_name (i := 3) sc_counts_at.nd rfl (by first | exact Or.inl rfl | exact Or.inr rfl)) (pss_one (ps_expr (pe_bm PySem.F.plainAttrs_list PySem.F.slot_list_append PySem.F.type_list_append mt_append (pv 2) (pa_cons (pe_op op_add (pe_ix ix_list (pv 2) (pe_un un_neg pe_int) (fun _ _ => rfl)) (pe_callTy call_int1 (by rfl) T.b_int (by decide +kernel) (pa_cons (pe_cmpR op_in_seq (pv 3) (pv 0) (by rfl)) pa_nil))) pa_nil)))))
        (pss_one (ps_ret (pv 2))))), ?_⟩
    refine ⟨by show 1 ≤ sizeLine; decide, fun p np => ?_⟩
    have hpc : p ≠ c := (ne_of_none hc np).symm
    refine ⟨_, rfl, _, _, rfl, rfl, _, _, rfl, ⟨by decide, by decide, by omega, by omega⟩, for_range (lo := 1) (n := ((N : Int) + 1 - 1).toNat) (fun i σ' H' => ∃ u : Option V, σ' = [some (.ref c), some (.int N), some (.ref p), u] ∧ H' p = some (.lst (nts ((List.range (i + 1)).map (cnt S)))) ∧ Same H H')
      ⟨none, rfl, upd_same, Same.upd' np⟩ ?_ ?_⟩
    · rintro i σ' H' hi ⟨u, rfl, gp, e⟩
      have hi : i < N := by omega
      have hpre : nts ((List.range (i + 1)).map (cnt S)) = nts ((List.range i).map (cnt S)) ++ [.int (cnt S i : Nat)] := by
        rw [List.range_succ]
        simp [nts]
      have e1 : (1 : Int) + (i : Int) = ((i + 1 : Nat) : Int) := by omega
      refine ⟨_, rfl, .inl ⟨rfl, _, SqL.of gp⟩, ?_⟩
      refine ⟨_, rfl, _, rfl, _, _, _, _, rfl, rfl, SqL.of gp, by rw [hpre]; exact atI_last _ _, _, rfl, _, rfl, c, _, rfl, .inl (SqL.of (e _ _ hc)), rfl, nts_flat _, .inr ⟨_, rfl, _, _, rfl, rfl, ?_⟩⟩
      refine ⟨_, _, _, rfl, rfl, gp, small1000 (by rw [nts_len]; simp; omega), ?_⟩
      refine ⟨_, rfl, ?_, Same.mut e np⟩
      have e2 : inV (.int ((1 : Int) + (i : Int))) (nts (cutsL N S)) = S i := by
        rw [e1, nts_in]
        by_cases h : S i = true
        · rw [h]; exact decide_eq_true (cuts_mem.mpr ⟨hi, h⟩)
        · rw [decide_eq_false (fun z => h (cuts_mem.mp z).2)]
          simpa using h
      rw [upd_same]
      show some (HO.lst (nts ((List.range (i + 1)).map (cnt S)) ++ [V.int ((cnt S i : Nat) + if inV (.int ((1 : Int) + (i : Int))) (nts (cutsL N S)) = true then 1 else 0)])) = some (HO.lst (nts ((List.range (i + 1 + 1)).map (cnt S))))
      rw [e2, List.range_succ (n := i + 1), List.map_append, List.map_singleton, cnt_succ]
      by_cases h : S i = true <;> simp [nts, h]
    · rintro σ' H' ⟨u, rfl, gp, e⟩
      have hN2 : ((N : Int) + 1 - 1).toNat = N := by omega
      rw [hN2] at gp
      exact ⟨_, rfl, k p H' np e gp⟩
/-! ### an edition as it stands in the heap -/
def edF (wk t u v : Addr) : List (Str × V) := [("work", .ref wk), ("words", .ref t), ("cuts", .ref u), ("counts", .ref v)]
theorem e_1 : (("words" : Str) == "work") = false := by decide +kernel
theorem e_2 : (("cuts" : Str) == "work") = false := by decide +kernel
theorem e_3 : (("cuts" : Str) == "words") = false := by decide +kernel
theorem e_4 : (("counts" : Str) == "work") = false := by decide +kernel
theorem e_5 : (("counts" : Str) == "words") = false := by decide +kernel
theorem e_6 : (("counts" : Str) == "cuts") = false := by decide +kernel
theorem ed_work (wk t u v : Addr) : (edF wk t u v).lookup ("work" : Str) = some (.ref wk) := by simp [edF, List.lookup]
theorem ed_words (wk t u v : Addr) : (edF wk t u v).lookup ("words" : Str) = some (.ref t) := by simp [edF, List.lookup, e_1]
theorem ed_cuts (wk t u v : Addr) : (edF wk t u v).lookup ("cuts" : Str) = some (.ref u) := by simp [edF, List.lookup, e_2, e_3]
theorem ed_counts (wk t u v : Addr) : (edF wk t u v).lookup ("counts" : Str) = some (.ref v) := by simp [edF, List.lookup, e_4, e_5, e_6]
theorem ed_no (wk t u v : Addr) {m : Str} (h1 : (m == "work") = false) (h2 : (m == "words") = false) (h3 : (m == "cuts") = false) (h4 : (m == "counts") = false) : (edF wk t u v).lookup m = none := by simp [edF, List.lookup, h1, h2, h3, h4]
def p1 (wk : Addr) : List (Str × V) := [("work", .ref wk)]
def p2 (wk t : Addr) : List (Str × V) := [("work", .ref wk), ("words", .ref t)]
def p3 (wk t u : Addr) : List (Str × V) := [("work", .ref wk), ("words", .ref t), ("cuts", .ref u)]
theorem ne_b {a b : Str} (h : (a == b) = false) : ¬ (b = a) := fun z => by rw [z] at h; simp at h
theorem put1 (wk : Addr) : putF "work" (.ref wk) [] = p1 wk := rfl
theorem put2 (wk t : Addr) : putF "words" (.ref t) (p1 wk) = p2 wk t := by simp [putF, p1, p2, ne_b e_1]
theorem put3 (wk t u : Addr) : putF "cuts" (.ref u) (p2 wk t) = p3 wk t u := by simp [putF, p2, p3, ne_b e_2, ne_b e_3]
theorem put4 (wk t u v : Addr) : putF "counts" (.ref v) (p3 wk t u) = edF wk t u v := by simp [putF, p3, edF, ne_b e_4, ne_b e_5, ne_b e_6]
/-- the edition of the passages S of the work at wk, at e -/
structure EdAt (CW CE : Addr) (H : Hp) (e wk : Addr) (nm : Str) (ws : List Str) (S : Nat → Bool) : Prop where
  ob : ∃ dx t u v, H e = some (.ins CE dx (edF wk t u v)) ∧ H t = some (.tup ((pick ws S).map V.str)) ∧ H u = some (.tup (nts (cutsL ws.length S))) ∧ H v = some (.tup (nts (countsL ws.length S)))
  wk : WkAt CW H wk nm ws
theorem EdAt.same {CW CE : Addr} {H H' : Hp} {a wk : Addr} {nm : Str} {ws : List Str} {S : Nat → Bool} (k : EdAt CW CE H a wk nm ws S) (e : Same H H') : EdAt CW CE H' a wk nm ws S := by
  obtain ⟨⟨dx, t, u, v, h1, h2, h3, h4⟩, h5⟩ := k
  exact ⟨⟨dx, t, u, v, e _ _ h1, e _ _ h2, e _ _ h3, e _ _ h4⟩, h5.same e⟩
theorem EdAt.kp {CW CE st : Addr} {H H' : Hp} {a wk : Addr} {nm : Str} {ws : List Str} {S : Nat → Bool} {xs : List V} (k : EdAt CW CE H a wk nm ws S) (e : Kp st H H') (hs : H st = some (.lst xs)) : EdAt CW CE H' a wk nm ws S := by
  obtain ⟨⟨dx, t, u, v, h1, h2, h3, h4⟩, h5⟩ := k
  exact ⟨⟨dx, t, u, v, e _ _ (ne_of h1 hs (by intro z; cases z)) h1, e _ _ (ne_of h2 hs (by intro z; cases z)) h2, e _ _ (ne_of h3 hs (by intro z; cases z)) h3, e _ _ (ne_of h4 hs (by intro z; cases z)) h4⟩, h5.kp e hs⟩
structure EdTxt (K : PySem.W.Frag) (C : Addr) : Prop where
  cl : Cls K C
  nK : NoAttr K C "work"
  nW : NoAttr K C "words"
  nC : NoAttr K C "cuts"
  nN : NoAttr K C "counts"
/-- a work is right: its words -/
structure WOk (ws : List Str) : Prop where
  ok : Wds ws ws.length
  l0 : 0 < ws.length
  l1 : ws.length ≤ 60
def spEdInit (CW CE : Addr) : Sp := fun vs H Q _ => ∃ (p dx wk a : Addr) (nm : Str) (ws : List Str) (S : Nat → Bool), vs = [.ref p, .ref wk, .ref a] ∧ H p = some (.ins CE dx []) ∧ WkAt CW H wk nm ws ∧ WOk ws ∧ SeqAt H a ((pick ws S).map V.str) ∧ wk ≠ p ∧
  ∀ H', EdAt CW CE H' p wk nm ws S → Kp p H H' → Q .non H'
abbrev s_Edition_init : Stmt := inClass (top 13) 0
theorem sc_Edition_init : FnScope ["self", "work", "passages", "cuts"] ["self", "work", "passages"] (defScope s_Edition_init) := ⟨rfl, rfl, rfl, by decide +kernel, rfl, by decide +kernel, by decide +kernel⟩
theorem WkAt.kpi {C C' p dx : Addr} {H H' : Hp} {a : Addr} {nm : Str} {ws : List Str} {fs : List (Str × V)} (k : WkAt C H a nm ws) (e : Kp p H H') (hs : H p = some (.ins C' dx fs)) (ha : a ≠ p) : WkAt C H' a nm ws := by
  obtain ⟨⟨dx, t, d, h1, h2, h3⟩⟩ := k
  exact ⟨⟨dx, t, d, e _ _ ha h1, e _ _ (ne_of h2 hs (by intro z; cases z)) h2, e _ _ (ne_of h3 hs (by intro z; cases z)) h3⟩⟩
theorem ok_ed_init {CW CE fC fN fL : Addr} {fdC fdN fdL : FuncData} (F : Fun K "__init__" "Edition.__init__" s_Edition_init f fd) (T : Blt mg) (W : EdTxt K CE)
    (D_cuts_behind : DefOk P w K mg base 3 "cuts_behind" fC fdC ["work", "passages"] (spCuts CW)) (D_counts_at : DefOk P w K mg base 1 "counts_at" fN fdN ["cuts", "length"] spCounts)
    (M_Work_len : MetOk P w K mg base 1 CW "__len__" fL fdL ["self"] (spWkLen CW)) : FnOk P w K mg base CX0 4 f fd ["self", "work", "passages"] (spEdInit CW CE) := by
  refine F.ok sc_Edition_init (fun vs H Q E h => ?_) (fun cdv A outer s H vs Q E hr h => ?_)
  · obtain ⟨p, dx, wk, a, nm, ws, S, rfl, _⟩ := h
    rfl
  · obtain ⟨p, dx, wk, a, nm, ws, S, rfl, hp, kw, hw, hq, hwp, k⟩ := h
    refine ⟨_, (pss_cons (ps_set (i := 3) sc_Edition_init.nd rfl (by first | exact Or.inl rfl | exact Or.inr rfl) (pe_d D_cuts_behind (hr.mono (by decide)) (pa_cons (pv 1) (pa_cons (pv 2) pa_nil))))
        (pss_cons (ps_fld (pv 0) (pv 1) rfl)
        (pss_cons (ps_fld (pv 0) (pe_callTy call_tuple_of (by rfl) T.b_tuple (by decide +kernel) (pa_cons (pv 2) pa_nil)) rfl)
        (pss_cons (ps_fld (pv 0) (pe_callTy call_tuple_of (by rfl) T.b_tuple (by decide +kernel) (pa_cons (pv 3) pa_nil)) rfl)
        (pss_one (ps_fld (pv 0) (pe_callTy call_tuple_of (by rfl) T.b_tuple (by decide +kernel) (pa_cons (pe_d D_counts_at (hr.mono (by decide)) (pa_cons (pv 3) (pa_cons (pe_callB (M_Work_len.len (hr.mono (by decide))) (by rfl) T.b_len PySem.boot_len (pa_cons (pv 1) pa_nil)) pa_nil))) pa_nil)) rfl)))))), ?_⟩
    have hap : a ≠ p := by
      rcases hq with hq | hq
      · exact ne_of hq hp (by intro z; cases z)
      · exact ne_of hq hp (by intro z; cases z)
    refine ⟨_, rfl, _, rfl, wk, a, nm, ws, S, rfl, kw, hw.ok.nd, hw.l1, hq, fun c H1 nc e1 hc => ?_⟩
    have hcp : c ≠ p := (ne_of_none hp nc).symm
    have hp1 := e1 _ _ hp
    refine ⟨_, rfl, _, rfl, p, CE, dx, _, rfl, hp1, W.cl, W.nK, by decide, ?_⟩
    rw [put1]
    generalize hH2 : upd H1 p (.ins CE dx (p1 wk)) = H2
    have kp2 : Kp p H H2 := by rw [← hH2]; exact (Kp.of e1).trans (Kp.upd _ _ _)
    have hp2 : H2 p = some (.ins CE dx (p1 wk)) := by rw [← hH2]; exact upd_same
    have hc2 : H2 c = some (.lst (nts (cutsL ws.length S))) := by rw [← hH2, upd_ne hcp]; exact hc
    clear hH2
    -- behind the words, at t
    have fin : ∀ (t : Addr) (H3 : Hp), H3 p = some (.ins CE dx (p1 wk)) → H3 t = some (.tup ((pick ws S).map V.str)) → H3 c = some (.lst (nts (cutsL ws.length S))) → Kp p H H3 → t ≠ p →
        tSeq (sFld K (tVar 0) (tCB (fun xs H Q => ∃ p ys, xs = [.ref p] ∧ ((SqL K H p ys ∧ ∀ l, H l = none → Q (.ref l) (upd H l (.tup ys))) ∨ (SqT K H p ys ∧ Q (.ref p) H))) (tCons (tVar 3) tNil)) "cuts")
          (sFld K (tVar 0) (tCB (fun xs H Q => ∃ p ys, xs = [.ref p] ∧ ((SqL K H p ys ∧ ∀ l, H l = none → Q (.ref l) (upd H l (.tup ys))) ∨ (SqT K H p ys ∧ Q (.ref p) H))) (tCons (tCall spCounts [] E0 (tCons (tVar 3) (tCons (tCB (rLenOwn CW (spWkLen CW) E0) (tCons (tVar 1) tNil)) tNil))) tNil)) "counts")
          { nx := fun _ H' => Q .non H', rt := Q } [some (.ref p), some (.ref wk), some (.ref a), some (.ref c)] (upd H3 p (.ins CE dx (p2 wk t))) := by
      intro t H3 g1 g2 g3 g4 htp
      have g5 : (upd H3 p (.ins CE dx (p2 wk t))) c = some (.lst (nts (cutsL ws.length S))) := by rw [upd_ne hcp]; exact g3
      refine ⟨_, rfl, c, _, rfl, .inl ⟨SqL.of g5, fun u nu => ?_⟩⟩
      have hup : u ≠ p := (ne_of_none upd_same nu).symm
      have huc : u ≠ c := (ne_of_none g5 nu).symm
      have hut : u ≠ t := (ne_of_none (by rw [upd_ne htp]; exact g2) nu).symm
      refine ⟨_, rfl, p, CE, dx, _, rfl, (by rw [upd_ne hup.symm, upd_same]), W.cl, W.nC, (by show 2 < 1000; decide), ?_⟩
      rw [put3]
      generalize hH4 : upd (upd (upd H3 p _) u _) p _ = H4
      have kp4 : Kp p H H4 := by rw [← hH4]; exact ((g4.trans (Kp.upd _ _ _)).trans (Kp.of (Same.upd' nu))).trans (Kp.upd _ _ _)
      have q1 : H4 p = some (.ins CE dx (p3 wk t u)) := by rw [← hH4]; exact upd_same
      have q2 : H4 t = some (.tup ((pick ws S).map V.str)) := by rw [← hH4, upd_ne htp, upd_ne hut.symm, upd_ne htp]; exact g2
      have q3 : H4 u = some (.tup (nts (cutsL ws.length S))) := by rw [← hH4, upd_ne hup, upd_same]
      have q4 : H4 c = some (.lst (nts (cutsL ws.length S))) := by rw [← hH4, upd_ne hcp, upd_ne huc.symm, upd_ne hcp]; exact g3
      clear hH4
      have kw4 : WkAt CW H4 wk nm ws := kw.kpi kp4 hp hwp
      obtain ⟨dxw, tw, dw, o1, o2, o3⟩ := kw4.ob
      refine ⟨_, rfl, _, rfl, wk, dxw, _, rfl, o1, wk, nm, ws, rfl, kw4, ws.length, rfl, by have := hw.l1; omega, c, ws.length, S, rfl, q4, hw.l1, fun cs H5 ncs e5 hcs => ?_⟩
      refine ⟨cs, _, rfl, .inl ⟨SqL.of hcs, fun v nv => ?_⟩⟩
      have r1 := e5 _ _ q1
      have hvp : v ≠ p := (ne_of_none r1 nv).symm
      have hvt : v ≠ t := (ne_of_none (e5 _ _ q2) nv).symm
      have hvu : v ≠ u := (ne_of_none (e5 _ _ q3) nv).symm
      refine ⟨_, rfl, p, CE, dx, _, rfl, (by rw [upd_ne hvp.symm]; exact r1), W.cl, W.nN, (by show 3 < 1000; decide), ?_⟩
      rw [put4]
      have kp6 : Kp p H (upd (upd H5 v (.tup (nts (countsL ws.length S)))) p (.ins CE dx (edF wk t u v))) := ((kp4.trans (Kp.of e5)).trans (Kp.of (Same.upd' nv))).trans (Kp.upd _ _ _)
      refine k _ ⟨⟨dx, t, u, v, upd_same, ?_, ?_, ?_⟩, kw.kpi kp6 hp hwp⟩ kp6
      · rw [upd_ne htp, upd_ne hvt.symm]; exact e5 _ _ q2
      · rw [upd_ne hup, upd_ne hvu.symm]; exact e5 _ _ q3
      · rw [upd_ne hvp, upd_same]
    rcases hq with hq | hq
    · refine ⟨_, rfl, a, _, rfl, .inl ⟨SqL.of (kp2 _ _ hap hq), fun t nt => ?_⟩⟩
      have htp : t ≠ p := (ne_of_none hp2 nt).symm
      have htc : t ≠ c := (ne_of_none hc2 nt).symm
      refine ⟨_, rfl, p, CE, dx, _, rfl, (by rw [upd_ne htp.symm]; exact hp2), W.cl, W.nW, (by show 1 < 1000; decide), ?_⟩
      rw [put2]
      exact fin t _ (by rw [upd_ne htp.symm]; exact hp2) upd_same (by rw [upd_ne htc.symm]; exact hc2) (kp2.trans (Kp.of (Same.upd' nt))) htp
    · refine ⟨_, rfl, a, _, rfl, .inr ⟨SqT.of (kp2 _ _ hap hq), ?_⟩⟩
      refine ⟨_, rfl, p, CE, dx, _, rfl, hp2, W.cl, W.nW, (by show 1 < 1000; decide), ?_⟩
      rw [put2]
      exact fin a _ hp2 (kp2 _ _ hap hq) hc2 kp2 hap
end
end Lm

namespace Lm
open PySem L2
theorem nth_at {ws : List Str} {j : Nat} (h : j < ws.length) : ws[j]? = some (ws.getD j no) := by
  rw [List.getD_eq_getElem?_getD, List.getElem?_eq_getElem h]
  rfl
theorem pick_in {ws : List Str} {T : Nat → Bool} {j : Nat} (nd : ws.Nodup) (h : j < ws.length) : decide (ws.getD j no ∈ pick ws T) = T j := by
  by_cases hT : T j = true
  · rw [hT]
    exact decide_eq_true (List.mem_map.mpr ⟨j, idx_mem.mpr ⟨h, hT⟩, rfl⟩)
  · have : T j = false := by simpa using hT
    rw [this]
    refine decide_eq_false fun z => hT ?_
    obtain ⟨i, hi, e⟩ := List.mem_map.mp z
    have hi := idx_mem.mp hi
    have e1 := nth_at hi.1
    rw [show ws.getD i no = ws.getD j no from e] at e1
    have := nd_ix nd e1 (nth_at h)
    subst this
    exact hi.2
theorem pick_len (ws : List Str) (S : Nat → Bool) : (pick ws S).length = cnt S ws.length := by unfold pick cnt; rw [List.length_map]
theorem pick_congr {ws : List Str} {S T : Nat → Bool} (h : ∀ i < ws.length, S i = T i) : pick ws S = pick ws T := by
  unfold pick idx
  rw [List.filter_congr fun i hi => h i (List.mem_range.mp hi)]
theorem pick_at {ws : List Str} {S : Nat → Bool} {i j : Nat} (h : (idx ws.length S)[i]? = some j) : ((pick ws S).map V.str)[i]? = some (.str (ws.getD j no)) := by
  unfold pick
  rw [List.map_map, List.getElem?_map, h]
  rfl
theorem filter_and (N : Nat) (S T : Nat → Bool) : (idx N S).filter T = idx N fun i => S i && T i := by
  unfold idx
  rw [List.filter_filter]
  exact List.filter_congr fun i _ => Bool.and_comm _ _
section
variable {CW CE : Addr}
theorem mkEd {H : Hp} {wk a : Addr} {nm : Str} {ws : List Str} {S : Nat → Bool} {R : Addr → Hp → Prop} {E : XK} (kw : WkAt CW H wk nm ws) (hw : WOk ws) (hq : SeqAt H a ((pick ws S).map V.str)) (k : ∀ x H', H x = none → Same H H' → EdAt CW CE H' x wk nm ws S → R x H') :
    ∀ x dx, H x = none → H dx = none → dx ≠ x → spEdInit CW CE (.ref x :: ([.ref wk, .ref a] ++ [])) (upd (upd H dx (.own x)) x (.ins CE dx [])) (fun v H2 => v = .non ∧ R x H2) E := by
  intro x dx nx ndx nex
  have s0 : Same H (upd (upd H dx (.own x)) x (.ins CE dx [])) := fun b o e => by
    rw [upd_ne (ne_of_none e nx), upd_ne (ne_of_none e ndx)]
    exact e
  obtain ⟨dw, tw, ew, o1, _, _⟩ := id kw.ob
  refine ⟨x, dx, wk, a, nm, ws, S, rfl, upd_same, kw.same s0, hw, hq.elim (fun h => .inl (s0 _ _ h)) fun h => .inr (s0 _ _ h), ne_of_none o1 nx, fun H' he hk => ⟨rfl, k x H' nx (fun b o e => hk b o (ne_of_none e nx) (s0 b o e)) he⟩⟩
theorem mkWk {H : Hp} {a : Addr} {nm : Str} {ws : List Str} {R : Addr → Hp → Prop} {E : XK} (hn : isW nm = true) (hw : WOk ws) (hq : SeqAt H a (ws.map V.str)) (k : ∀ x H', H x = none → Same H H' → WkAt CW H' x nm ws → R x H') :
    ∀ x dx, H x = none → H dx = none → dx ≠ x → spWkInit CW (.ref x :: ([.str nm, .ref a] ++ [])) (upd (upd H dx (.own x)) x (.ins CW dx [])) (fun v H2 => v = .non ∧ R x H2) E := by
  intro x dx nx ndx nex
  have s0 : Same H (upd (upd H dx (.own x)) x (.ins CW dx [])) := fun b o e => by
    rw [upd_ne (ne_of_none e nx), upd_ne (ne_of_none e ndx)]
    exact e
  refine ⟨x, dx, a, nm, ws, rfl, upd_same, hq.elim (fun h => .inl (s0 _ _ h)) fun h => .inr (s0 _ _ h), hn, hw.ok, hw.l0, hw.l1, fun H' he hk => ⟨rfl, k x H' nx (fun b o e => hk b o (ne_of_none e nx) (s0 b o e)) he⟩⟩
end
section
variable {P : Program} {w : World} {K : PySem.W.Frag} {mg : Str → Option Value} {base : Heap} {f : Addr} {fd : FuncData}
theorem pick_all (ws : List Str) : pick ws (fun _ => true) = ws := by
  unfold pick idx
  rw [List.filter_eq_self.mpr fun _ _ => rfl]
  refine List.ext_getElem? fun i => ?_
  rw [List.getElem?_map]
  rcases Nat.lt_or_ge i ws.length with h | h
  · rw [List.getElem?_range h, nth_at h]
    rfl
  · rw [List.getElem?_eq_none (by simpa using h), List.getElem?_eq_none h]
    rfl
def spWhole (CW CE : Addr) : Sp := fun vs H Q _ => ∃ (wk : Addr) (nm : Str) (ws : List Str), vs = [.ref wk] ∧ WkAt CW H wk nm ws ∧ WOk ws ∧ ∀ p H', H p = none → Same H H' → EdAt CW CE H' p wk nm ws (fun _ => true) → Q (.ref p) H'
def spEdLen (CW CE : Addr) : Sp := fun vs H Q _ => ∃ (a wk : Addr) (nm : Str) (ws : List Str) (S : Nat → Bool), vs = [.ref a] ∧ EdAt CW CE H a wk nm ws S ∧ Q (.int (cnt S ws.length : Nat)) H
abbrev s_Edition_len : Stmt := inClass (top 13) 6
theorem sc_Edition_len : FnScope ["self"] ["self"] (defScope s_Edition_len) := ⟨rfl, rfl, rfl, by decide +kernel, rfl, by decide +kernel, by decide +kernel⟩
theorem ok_ed_len {CW CE : Addr} (F : Fun K "__len__" "Edition.__len__" s_Edition_len f fd) (T : Blt mg) (W : EdTxt K CE) : FnOk P w K mg base CX0 1 f fd ["self"] (spEdLen CW CE) := by
  refine F.ok sc_Edition_len (fun vs H Q E h => ?_) (fun cdv A outer s H vs Q E hr h => ?_)
  · obtain ⟨a, wk, nm, ws, S, rfl, _⟩ := h
    rfl
  · obtain ⟨a, wk, nm, ws, S, rfl, ⟨⟨dx, t, u, v, h1, h2, h3, h4⟩, _⟩, k⟩ := h
    refine ⟨_, (pss_one (ps_ret (pe_callB call_len_seq (by rfl) T.b_len PySem.boot_len (pa_cons (pe_fld (pv 0) rfl) pa_nil)))), ?_⟩
    refine ⟨_, rfl, a, CE, dx, _, _, rfl, h1, W.cl, W.nW, ed_words _ _ _ _, t, _, rfl, .inr (SqT.of h2), ?_⟩
    rw [List.length_map, pick_len]
    exact k
def spEdIn (CW CE : Addr) : Sp := fun vs H Q _ => ∃ (a wk : Addr) (x nm : Str) (ws : List Str) (S : Nat → Bool), vs = [.ref a, .str x] ∧ EdAt CW CE H a wk nm ws S ∧ Q (.bl (decide (x ∈ pick ws S))) H
abbrev s_Edition_contains : Stmt := inClass (top 13) 7
theorem sc_Edition_contains : FnScope ["self", "x"] ["self", "x"] (defScope s_Edition_contains) := ⟨rfl, rfl, rfl, by decide +kernel, rfl, by decide +kernel, by decide +kernel⟩
theorem ok_ed_in {CW CE : Addr} (F : Fun K "__contains__" "Edition.__contains__" s_Edition_contains f fd) (T : Blt mg) (W : EdTxt K CE) : FnOk P w K mg base CX0 1 f fd ["self", "x"] (spEdIn CW CE) := by
  refine F.ok sc_Edition_contains (fun vs H Q E h => ?_) (fun cdv A outer s H vs Q E hr h => ?_)
  · obtain ⟨a, wk, x, nm, ws, S, rfl, _⟩ := h
    rfl
  · obtain ⟨a, wk, x, nm, ws, S, rfl, ⟨⟨dx, t, u, v, h1, h2, h3, h4⟩, _⟩, k⟩ := h
    refine ⟨_, (pss_one (ps_ret (pe_and (pe_callB call_isi (by rfl) T.b_isinstance (by decide +kernel) (pa_cons (pv 1) (pa_cons (pe_bltn (v := .ty "str") (u := .type "str") (by rfl) T.b_str (by decide +kernel) rfl) pa_nil))) (pe_one (pe_cmpR op_in_seq (pv 1) (pe_fld (pv 0) rfl) (by rfl)))))), ?_⟩
    refine ⟨_, rfl, _, _, _, _, true, rfl, .ty _, .base (.str x), kit_ty (by decide +kernel), true, rfl, ?_⟩
    refine ⟨_, rfl, _, rfl, a, CE, dx, _, _, rfl, h1, W.cl, W.nW, ed_words _ _ _ _, t, _, rfl, .inr (SqT.of h2), rfl, strs_flat _, ?_⟩
    have e := strs_in (pick ws S) x
    rw [← e] at k
    exact k
def spReqCount (CW CE : Addr) : Sp := fun vs H Q _ => ∃ (a wk : Addr) (n : Nat) (nm : Str) (ws : List Str) (S : Nat → Bool), vs = [.int n, .ref a] ∧ EdAt CW CE H a wk nm ws S ∧ ws.length ≤ 60 ∧ n ≤ cnt S ws.length ∧ Q .non H
theorem cnt_le (S : Nat → Bool) (N : Nat) : cnt S N ≤ N := idx_len N S
def spReqCut (CW : Addr) : Sp := fun vs H Q _ => ∃ (wk : Addr) (n : Nat) (nm : Str) (ws : List Str), vs = [.int n, .ref wk] ∧ WkAt CW H wk nm ws ∧ ws.length ≤ 60 ∧ n ≤ ws.length ∧ Q .non H
def spCutB (CW CE : Addr) : Sp := fun vs H Q _ => ∃ (a wk : Addr) (n x : Nat) (nm : Str) (ws : List Str) (S : Nat → Bool), vs = [.ref a, .int n] ∧ EdAt CW CE H a wk nm ws S ∧ ws.length ≤ 60 ∧ (cutsL ws.length S)[n]? = some x ∧ Q (.int x) H
def spCountAt (CW CE : Addr) : Sp := fun vs H Q _ => ∃ (a wk : Addr) (c : Nat) (nm : Str) (ws : List Str) (S : Nat → Bool), vs = [.ref a, .int c] ∧ EdAt CW CE H a wk nm ws S ∧ ws.length ≤ 60 ∧ c ≤ ws.length ∧ Q (.int (cnt S c : Nat)) H
def spKernel (CW CE : Addr) : Sp := fun vs H Q _ => ∃ (a wk : Addr) (c : Nat) (nm : Str) (ws : List Str) (S : Nat → Bool), vs = [.ref a, .int c] ∧ EdAt CW CE H a wk nm ws S ∧ ws.length ≤ 60 ∧ c ≤ ws.length ∧ Q (.int (ker S c : Nat)) H
end
end Lm

namespace Lm
open PySem L2 Evl RZ
structure EdIsi (K : PySem.W.Frag) (mg : Str → Option Value) (C : Addr) : Prop where
  g_Edition : mg "Edition" = some (.ref C)
  ha : PySem.W.findIn K (.ref C) "__class__" = some (some (.builtin "object.__class__"))
  hn : PySem.W.specialIn K (.builtin "object.__class__") "__get__" = some (some (.builtin "getset_descriptor.__get__"))
  htk : PySem.W.takesIn K (.builtin "object.__class__") = some true
  hm : PySem.W.mroIn K C (.type "object") = some true
  ko : PySem.W.kitOne K (.ref C) (.ref C) = some true
/-! ### two things that are the same, of depth below d -/
def SameV (H : Hp) : Nat → V → V → Prop
  | 0 => fun _ _ => False
  | d + 1 => fun x y => (∃ i, x = .int i ∧ y = .int i) ∨ (∃ b, x = .bl b ∧ y = .bl b) ∨ (∃ s, x = .str s ∧ y = .str s) ∨ (x = .non ∧ y = .non) ∨
    (∃ a b xs ys, x = .ref a ∧ y = .ref b ∧ H a = some (.lst xs) ∧ H b = some (.lst ys) ∧ xs.length = ys.length ∧ xs.length ≤ 40000 ∧ ∀ (i : Nat) u v, xs[i]? = some u → ys[i]? = some v → SameV H d u v) ∨
    (∃ a b xs ys, x = .ref a ∧ y = .ref b ∧ H a = some (.tup xs) ∧ H b = some (.tup ys) ∧ xs.length = ys.length ∧ xs.length ≤ 40000 ∧ ∀ (i : Nat) u v, xs[i]? = some u → ys[i]? = some v → SameV H d u v) ∨ (∃ a ks, x = .ref a ∧ y = .ref a ∧ H a = some (.dK ks) ∧ (ks.map (·.1)).Nodup)
theorem SameV.ex {H H' : Hp} (e : Ex H H') : ∀ {d : Nat} {x y : V}, SameV H d x y → SameV H' d x y
  | 0, _, _, h => h
  | d + 1, x, y, h => by
    rcases h with h | h | h | h | ⟨a, b, xs, ys, rfl, rfl, ha, hb, h1, h2, h3⟩ | ⟨a, b, xs, ys, rfl, rfl, ha, hb, h1, h2, h3⟩ | ⟨a, ks, rfl, rfl, ha, hd⟩
    · exact .inl h
    · exact .inr (.inl h)
    · exact .inr (.inr (.inl h))
    · exact .inr (.inr (.inr (.inl h)))
    · exact .inr (.inr (.inr (.inr (.inl ⟨a, b, xs, ys, rfl, rfl, e _ _ ha, e _ _ hb, h1, h2, fun i u v q1 q2 => SameV.ex e (h3 i u v q1 q2)⟩))))
    · exact .inr (.inr (.inr (.inr (.inr (.inl ⟨a, b, xs, ys, rfl, rfl, e _ _ ha, e _ _ hb, h1, h2, fun i u v q1 q2 => SameV.ex e (h3 i u v q1 q2)⟩)))))
    · exact .inr (.inr (.inr (.inr (.inr (.inr ⟨a, ks, rfl, rfl, e _ _ ha, hd⟩)))))
theorem SameV.int {H : Hp} {d : Nat} (i : Int) : SameV H (d + 1) (.int i) (.int i) := .inl ⟨i, rfl, rfl⟩
theorem SameV.bl {H : Hp} {d : Nat} (i : Bool) : SameV H (d + 1) (.bl i) (.bl i) := .inr (.inl ⟨i, rfl, rfl⟩)
theorem SameV.str {H : Hp} {d : Nat} (i : Str) : SameV H (d + 1) (.str i) (.str i) := .inr (.inr (.inl ⟨i, rfl, rfl⟩))
theorem SameV.non {H : Hp} {d : Nat} : SameV H (d + 1) .non .non := .inr (.inr (.inr (.inl ⟨rfl, rfl⟩)))
theorem SameV.lst {H : Hp} {d : Nat} {a b : Addr} {xs ys : List V} (ha : H a = some (.lst xs)) (hb : H b = some (.lst ys)) (h1 : xs.length = ys.length) (h2 : xs.length ≤ 40000) (h3 : ∀ (i : Nat) u v, xs[i]? = some u → ys[i]? = some v → SameV H d u v) : SameV H (d + 1) (.ref a) (.ref b) :=
  .inr (.inr (.inr (.inr (.inl ⟨a, b, xs, ys, rfl, rfl, ha, hb, h1, h2, h3⟩))))
theorem SameV.tup {H : Hp} {d : Nat} {a b : Addr} {xs ys : List V} (ha : H a = some (.tup xs)) (hb : H b = some (.tup ys)) (h1 : xs.length = ys.length) (h2 : xs.length ≤ 40000) (h3 : ∀ (i : Nat) u v, xs[i]? = some u → ys[i]? = some v → SameV H d u v) : SameV H (d + 1) (.ref a) (.ref b) :=
  .inr (.inr (.inr (.inr (.inr (.inl ⟨a, b, xs, ys, rfl, rfl, ha, hb, h1, h2, h3⟩)))))
theorem SameV.dct {H : Hp} {d : Nat} {a : Addr} {ks : List (Key × V)} (ha : H a = some (.dK ks)) (hd : (ks.map (·.1)).Nodup) : SameV H (d + 1) (.ref a) (.ref a) := .inr (.inr (.inr (.inr (.inr (.inr ⟨a, ks, rfl, rfl, ha, hd⟩)))))
theorem rv_eqD {H : Hp} {x y : V} (h : scal x y = true) : RV (fun x y H Q => rEq x y H Q ∨ rEqSelf x y H Q) x y H (.bl (decide (x = y))) := fun H1 _ _ q => .inl ⟨h, q H1 (Ex.refl H1)⟩
theorem rv_eqDd {H : Hp} {a : Addr} {ks : List (Key × V)} (h : H a = some (.dK ks)) (hd : (ks.map (·.1)).Nodup) : RV (fun x y H Q => rEq x y H Q ∨ rEqSelf x y H Q) (.ref a) (.ref a) H (.bl true) := fun H1 e _ q => .inr ⟨a, ks, rfl, rfl, e _ _ h, hd, q H1 (Ex.refl H1)⟩
/-- lists of flat things alike -/
theorem SameV.flat {H : Hp} {d : Nat} {a b : Addr} {xs : List V} (ha : H a = some (.lst xs)) (hb : H b = some (.lst xs)) (h2 : xs.length ≤ 40000) (h : ∀ x ∈ xs, SameV H (d + 1) x x) : SameV H (d + 2) (.ref a) (.ref b) :=
  .lst ha hb rfl h2 fun i u v q1 q2 => by
    rw [q1] at q2
    cases (Option.some.inj q2)
    exact h u (List.mem_of_getElem? q1)
theorem ok_none {P : Program} {w : World} {K : PySem.W.Frag} {mg : Str → Option Value} {base : Heap} {f : Addr} {fd : FuncData} {k : Nat} {ps : List Str} : FnOk P w K mg base CX0 k f fd ps (fun _ _ _ _ => False) :=
  ⟨fun _ _ _ _ h => h.elim, fun _ _ _ _ _ _ _ _ _ _ _ _ _ h => h.elim⟩
section
variable {K : PySem.W.Frag} {σ : L2.St} {H : Hp} {te : TE}
theorem ev_isi {x c : V} {t u : Value} {b : Bool} (h : Ev te σ H x) (hc : ClsV c u) (ht : ∀ H1, Ex H H1 → TyX K H1 x t) (hk : PySem.W.kitOne K t u = some b) : Ev (tCB (rIsi K) (tCons te (tCons (tC c) tNil))) σ H (.bl b) :=
  ev_cb (ea_cons h (ea_cons ev_c ea_nil)) fun H1 e Q q => ⟨x, c, t, u, b, rfl, hc, ht H1 e, hk, q H1 (Ex.refl _)⟩
theorem ev_isiT {x : V} {cs : List V} {t : Value} {us : List Value} {b : Bool} {ta : TA} (h : Ev te σ H x) (hcs : EvA ta σ H cs) (hl : cs.length ≤ 100000) (hc : Paired ClsV cs us) (ht : ∀ H1, Ex H H1 → TyX K H1 x t) (hk : PySem.W.kitAny K t us = some b) :
    Ev (tCB (rIsiT K) (tCons te (tCons (tTup ta) tNil))) σ H (.bl b) := fun H1 e Q q => h H1 e _ fun H2 e2 => hcs H2 (e.trans e2) _ fun H3 e3 => ⟨sz_of hl, fun p np =>
      ⟨x, p, cs, t, us, b, rfl, upd_same, hc, ht _ (((e.trans e2).trans e3).trans (Ex.new np)), hk, q _ ((e2.trans e3).trans (Ex.new np))⟩⟩
/-- over zip of two lists -/
theorem el_lcZ {a b : Addr} {xs ys : List V} {ta tb : TE} {i j : Nat} {vs : List Nat} (v : Nat → V) (ha : Ev ta σ H (.ref a)) (hb : Ev tb σ H (.ref b)) (hx : H a = some (.lst xs) ∧ H b = some (.lst ys) ∨ H a = some (.tup xs) ∧ H b = some (.tup ys)) (hl : xs.length = ys.length) (hz : xs.length ≤ 40000)
    (hw : ∀ x y, wipe (((wipe σ vs).set i (some x)).set j (some y)) vs = wipe σ vs) (he : ∀ (n : Nat) (x y : V) H1, Ex H H1 → xs[n]? = some x → ys[n]? = some y → Ev te (((wipe σ vs).set i (some x)).set j (some y)) H1 (v n)) :
    EvL (tLc (iZipA K (tCons ta (tCons tb tNil))) (gTup K 2 (gCons (gName i) (gCons (gName j) gNil))) tYes te vs) σ H ((List.range xs.length).map v) := fun H0 e Q q => ha H0 e _ fun H1 e1 => hb H1 (e.trans e1) _ fun H2 e2 => by
  have E := (e.trans e1).trans e2
  have hmin : xs.length = min xs.length ys.length := by omega
  have turn : ∀ (n : Nat) (z : V) (Hn Hn' : Hp) (D : Addr), n < xs.length → Cw H2 (fun _ => true) v D n Hn → YPair (fun i => xs[i]?) (fun i => ys[i]?) n Hn z Hn' →
      gTup K 2 (gCons (gName i) (gCons (gName j) gNil)) z (wipe σ vs) Hn' fun σ2 H2' => wipe σ2 vs = wipe σ vs ∧ tYes σ2 H2' fun b H3 => if b = true then te σ2 H3 fun y H4 => ∃ acc, H4 D = some (.lst acc) ∧ acc.length < sizeLine ∧ Cw H2 (fun _ => true) v D (n + 1) (upd H4 D (.lst (acc ++ [y]))) else Cw H2 (fun _ => true) v D (n + 1) H3 := by
    rintro n z Hn Hn' D hn p ⟨T', x, y, rfl, nT, rfl, hx1, hy1⟩
    refine ⟨T', _, rfl, SqT.of upd_same, rfl, _, _, rfl, _, _, rfl, rfl, hw x y, ?_⟩
    have p' : Cw H2 (fun _ => true) v D n (upd Hn T' (.tup [x, y])) := ⟨p.1, p.2.1.trans (Ex.new nT), by rw [upd_ne (ne_of_none p.2.2 nT)]; exact p.2.2⟩
    exact cw_turn (t := tYes) p' (by omega) (fun H1 _ _ q => q H1 (Ex.refl H1)) fun _ => he n x y H2 E hx1 hy1
  have fin : ∀ D H', Cw H2 (fun _ => true) v D xs.length H' → Q (.ref D) H' := fun D H' p => q D H' (fresh_back (e1.trans e2) p.1) ((e1.trans e2).trans p.2.1) (by
    rw [p.2.2]
    unfold given
    rw [List.filter_eq_self.mpr fun _ _ => rfl])
  refine ⟨a, b, xs, ys, rfl, ?_⟩
  rcases hx with ⟨h1, h2⟩ | ⟨h1, h2⟩
  · refine .inl ⟨sq_of (E _ _ h1), sq_of (E _ _ h2), fun D hD => lc_it (walk_zip hmin) (Cw H2 (fun _ => true) v D) ⟨hD, Ex.new hD, upd_same⟩ (fun n H' _ p => ⟨sq_of ((E.trans p.2.1) _ _ h1), sq_of ((E.trans p.2.1) _ _ h2)⟩) (fun n z Hn Hn' hn p y => turn n z Hn Hn' D hn p y) (fun H' p => fin D H' p)⟩
  · refine .inr ⟨st_of (E _ _ h1), st_of (E _ _ h2), fun D hD => lc_it (walk_zipT hmin) (Cw H2 (fun _ => true) v D) ⟨hD, Ex.new hD, upd_same⟩ (fun n H' _ p => ⟨st_of ((E.trans p.2.1) _ _ h1), st_of ((E.trans p.2.1) _ _ h2)⟩) (fun n z Hn Hn' hn p y => turn n z Hn Hn' D hn p y) (fun H' p => fin D H' p)⟩
theorem ev_lenL {p : Addr} {xs : List V} (ha : Ev te σ H (.ref p)) (h : H p = some (.lst xs)) : Ev (tCB (rLenS K) (tCons te tNil)) σ H (.int (xs.length : Int)) := ev_len ha (sq_of h)
theorem ev_lenT {p : Addr} {xs : List V} (ha : Ev te σ H (.ref p)) (h : H p = some (.tup xs)) : Ev (tCB (rLenS K) (tCons te tNil)) σ H (.int (xs.length : Int)) := ev_cb (ea_cons ha ea_nil) fun H1 e Q q => ⟨p, xs, rfl, .inr (st_of (e _ _ h)), q H1 (Ex.refl _)⟩
theorem ev_isB {x y : Bool} {ta tb : TE} (ha : Ev ta σ H (.bl x)) (hb : Ev tb σ H (.bl y)) : Ev (tOp rIsB ta tb) σ H (.bl (decide (x = y))) := ev_op ha hb fun H1 _ Q q => ⟨x, y, rfl, rfl, q H1 (Ex.refl _)⟩
theorem ev_all {bs : List Bool} (h : EvL te σ H (bs.map V.bl)) : Ev (tCB (rAll K) (tCons te tNil)) σ H (.bl (bs.all id)) := fun H1 e Q q =>
  h H1 e _ fun p H2 _ e2 hp => ⟨p, bs, rfl, sq_of hp, q H2 e2⟩
end
theorem kAny4 {K : PySem.W.Frag} {t : String} {c1 c2 c3 c4 : String} (h1 : kitB t c1 = some false) (h2 : kitB t c2 = some false) (h3 : kitB t c3 = some false) (h4 : kitB t c4 = some false) : PySem.W.kitAny K (.type t) [.type c1, .type c2, .type c3, .type c4] = some false :=
  kitAny_cons (kit_ty h1) (fun _ => kitAny_cons (kit_ty h2) (fun _ => kitAny_cons (kit_ty h3) (fun _ => kitAny_cons (kit_ty h4) (fun _ => rfl) (fun z => nomatch z)) (fun z => nomatch z)) (fun z => nomatch z)) (fun z => nomatch z)
theorem kAny2 {K : PySem.W.Frag} {t : String} {c1 c2 : String} (h1 : kitB t c1 = some false) (h2 : kitB t c2 = some false) : PySem.W.kitAny K (.type t) [.type c1, .type c2] = some false :=
  kitAny_cons (kit_ty h1) (fun _ => kitAny_cons (kit_ty h2) (fun _ => rfl) (fun z => nomatch z)) (fun z => nomatch z)
theorem kAnyL {K : PySem.W.Frag} : PySem.W.kitAny K (.type "list") [.type "list", .type "tuple"] = some true := kitAny_cons (b := true) (kit_ty (by decide +kernel)) (fun z => nomatch z) (fun _ => rfl)
theorem kAnyT {K : PySem.W.Frag} : PySem.W.kitAny K (.type "tuple") [.type "list", .type "tuple"] = some true := kitAny_cons (b := false) (kit_ty (by decide +kernel)) (fun _ => kitAny_cons (b := true) (kit_ty (by decide +kernel)) (fun z => nomatch z) (fun _ => rfl)) (fun z => nomatch z)
theorem pairT2 {c1 c2 : String} : Paired ClsV [V.ty c1, V.ty c2] [Value.type c1, Value.type c2] := .cons (.ty _) (.cons (.ty _) .nil)
theorem pairT4 {c1 c2 c3 c4 : String} : Paired ClsV [V.ty c1, V.ty c2, V.ty c3, V.ty c4] [Value.type c1, Value.type c2, Value.type c3, Value.type c4] := .cons (.ty _) (.cons (.ty _) (.cons (.ty _) (.cons (.ty _) .nil)))
section
variable {P : Program} {w : World} {K : PySem.W.Frag} {mg : Str → Option Value} {base : Heap} {f : Addr} {fd : FuncData}
def spSame (d : Nat) : Sp := fun vs H Q _ => ∃ x y, vs = [x, y] ∧ SameV H d x y ∧ ∀ H', Same H H' → Q (.bl true) H'
abbrev s_same : Stmt := top 23
theorem sc_same : FnScope ["_law_found", "_law_due_here", "_law_a", "_law_b"] ["_law_found", "_law_due_here"] (defScope s_same) := ⟨rfl, rfl, rfl, by decide +kernel, rfl, by decide +kernel, by decide +kernel⟩
theorem ok_same {d : Nat} (F : Fun K "_law_same" "_law_same" s_same f fd) (T : Blt mg) (D_same : DefOk P w K mg base d "_law_same" f fd ["_law_found", "_law_due_here"] (spSame d)) : FnOk P w K mg base CX0 (d + 1) f fd ["_law_found", "_law_due_here"] (spSame (d + 1)) := by
  refine F.ok sc_same (fun vs H Q E h => ?_) (fun cdv A outer s H vs Q E hr h => ?_)
  · obtain ⟨x, y, rfl, _⟩ := h
    rfl
  · obtain ⟨x, y, rfl, hxy, k⟩ := h
    have D_room : Room d _ := hr
    refine ⟨_, (pss_cons (ps_if (pt_val (pe_callB call_isiT (by rfl) T.b_isinstance (by decide +kernel) (pa_cons (pv 1) (pa_cons (pe_tup (pa_cons (pe_bltn (v := .ty "list") (u := .type "list") (by rfl) T.b_list (by decide +kernel) rfl) (pa_cons (pe_bltn (v := .ty "tuple") (u := .type "tuple") (by rfl) T.b_tuple (by decide +kernel) rfl) pa_nil))) pa_nil)))) (pss_cons (ps_if (PW.pt (pw_or (pt_cmpR op_ne (pe_callB call_isi (by rfl) T.b_isinstance (by decide +kernel) (pa_cons (pv 0) (pa_cons (pe_bltn (v := .ty "list") (u := .type "list") (by rfl) T.b_list (by decide +kernel) rfl) pa_nil))) (pe_callB call_isi (by rfl) T.b_isinstance (by decide +kernel) (pa_cons (pv 1) (pa_cons (pe_bltn (v := .ty "list") (u := .type "list") (by rfl) T.b_list (by decide +kernel) rfl) pa_nil))) (nomark _)) (pw_or1 (pt_cmpR op_ne (pe_callB call_isi (by rfl) T.b_isinstance (by decide +kernel) (pa_cons (pv 0) (pa_cons (pe_bltn (v := .ty "tuple") (u := .type "tuple") (by rfl) T.b_tuple (by decide +kernel) rfl) pa_nil))) (pe_callB call_isi (by rfl) T.b_isinstance (by decide +kernel) (pa_cons (pv 1) (pa_cons (pe_bltn (v := .ty "tuple") (u := .type "tuple") (by rfl) T.b_tuple (by decide +kernel) rfl) pa_nil))) (nomark _))))) (pss_one (ps_ret pe_bl)) pss_nil)
        (pss_one (ps_ret (pe_and (pe_cmpR op_eq (pe_callB call_len_seq (by rfl) T.b_len PySem.boot_len (pa_cons (pv 0) pa_nil)) (pe_callB call_len_seq (by rfl) T.b_len PySem.boot_len (pa_cons (pv 1) pa_nil)) (nomark _)) (pe_one (pe_callB (cr_all rfl) (by rfl) T.b_all (by decide +kernel) (by exact (pa_cons (pe_lc (own := [("_law_a", 2), ("_law_b", 3)]) (g := gTup K 2 (gCons (gName 2) (gCons (gName 3) gNil))) (tt := tYes) (te := (tCall (spSame d) [] E0 (tCons (tVar 2) (tCons (tVar 3) tNil)))) rfl sc_same.nd (pi_zipA rfl T.b_zip (pa_cons (pv 0) (pa_cons (pv 1) pa_nil))) (blkOk_by (own := [("_law_a", 2), ("_law_b", 3)]) (by kernel_rfl)) (fun _ _ _ _ _ => (pg_tup rfl (pgs_cons (pg_name (i := 2) sc_same.nd rfl (by first | exact Or.inl rfl | exact Or.inr rfl)) (pgs_cons (pg_name (i := 3) sc_same.nd rfl (by first | exact Or.inl rfl | exact Or.inr rfl)) pgs_nil)))) (fun _ _ _ _ _ => pts_nil) (fun _ _ _ _ _ => by exact (pe_d D_same D_room (pa_cons (pv 2) (pa_cons (pv 3) pa_nil))))) pa_nil)))))))) pss_nil)
        (pss_cons (ps_if (pt_val (pe_callB call_isi (by rfl) T.b_isinstance (by decide +kernel) (pa_cons (pv 1) (pa_cons (pe_bltn (v := .ty "int") (u := .type "int") (by rfl) T.b_int (by decide +kernel) rfl) pa_nil)))) (pss_one (ps_ret (pe_and (pe_callB call_isi (by rfl) T.b_isinstance (by decide +kernel) (pa_cons (pv 0) (pa_cons (pe_bltn (v := .ty "int") (u := .type "int") (by rfl) T.b_int (by decide +kernel) rfl) pa_nil))) (pe_and (pe_cmpR op_eq (pe_callB call_isi (by rfl) T.b_isinstance (by decide +kernel) (pa_cons (pv 0) (pa_cons (pe_bltn (v := .ty "bool") (u := .type "bool") (by rfl) T.b_bool (by decide +kernel) rfl) pa_nil))) (pe_callB call_isi (by rfl) T.b_isinstance (by decide +kernel) (pa_cons (pv 1) (pa_cons (pe_bltn (v := .ty "bool") (u := .type "bool") (by rfl) T.b_bool (by decide +kernel) rfl) pa_nil))) (nomark _)) (pe_one (pe_cmpR (op_or op_eq (op_eqSelf (Nat.lt_of_le_of_lt (Nat.add_le_add_left (by decide) _) hr.units))) (pv 0) (pv 1) (nomark _))))))) pss_nil)
        (pss_one (ps_ret (pe_and (pe_cmpR op_isBl (pe_callB call_isiT (by rfl) T.b_isinstance (by decide +kernel) (pa_cons (pv 0) (pa_cons (pe_tup (pa_cons (pe_bltn (v := .ty "bool") (u := .type "bool") (by rfl) T.b_bool (by decide +kernel) rfl) (pa_cons (pe_bltn (v := .ty "int") (u := .type "int") (by rfl) T.b_int (by decide +kernel) rfl) (pa_cons (pe_bltn (v := .ty "list") (u := .type "list") (by rfl) T.b_list (by decide +kernel) rfl) (pa_cons (pe_bltn (v := .ty "tuple") (u := .type "tuple") (by rfl) T.b_tuple (by decide +kernel) rfl) pa_nil))))) pa_nil))) pe_bl (nomark _)) (pe_one (pe_cmpR (op_or op_eq (op_eqSelf (Nat.lt_of_le_of_lt (Nat.add_le_add_left (by decide) _) hr.units))) (pv 0) (pv 1) (nomark _)))))))), ?_⟩
    have two : ∀ x : V, EvA (tCons (tC (.ty "list")) (tCons (tC (.ty "tuple")) tNil)) [some x, some y, none, none] H [.ty "list", .ty "tuple"] := fun _ => ea_cons ev_c (ea_cons ev_c ea_nil)
    rcases hxy with ⟨i, rfl, rfl⟩ | ⟨i, rfl, rfl⟩ | ⟨i, rfl, rfl⟩ | ⟨rfl, rfl⟩ | ⟨a, b, xs, ys, rfl, rfl, ha, hb, h1, h2, h3⟩ | ⟨a, b, xs, ys, rfl, rfl, ha, hb, h1, h2, h3⟩ | ⟨a, ks, rfl, rfl, ha, hd⟩
    · refine q_when (et_B (ev_isiT (ev_var rfl) (ea_cons ev_c (ea_cons ev_c ea_nil)) (by decide) pairT2 (fun _ _ => .base (.int i)) (kAny2 (by decide +kernel) (by decide +kernel)))) (fun z => nomatch z) fun _ H1 e1 => ?_
      refine q_when (et_B (ev_isi (b := true) (ev_var rfl) (.ty _) (fun _ _ => .base (.int i)) (kit_ty (by decide +kernel)))) (fun _ H2 e2 => ?_) (fun z => nomatch z)
      refine s_ret (ev_is (ev_andV (ev_isi (b := true) (ev_var rfl) (.ty _) (fun _ _ => .base (.int i)) (kit_ty (by decide +kernel))) fun _ => ev_andV (ev_op (ev_isi (b := false) (ev_var rfl) (.ty _) (fun _ _ => .base (.int i)) (kit_ty (by decide +kernel))) (ev_isi (b := false) (ev_var rfl) (.ty _) (fun _ _ => .base (.int i)) (kit_ty (by decide +kernel))) (rv_eq rfl)) fun _ => ev_op (ev_var rfl) (ev_var rfl) (rv_eqD rfl)) ?_) fun H3 e3 => k H3 (Ex.trans e1 (Ex.trans e2 e3))
      simp
    · refine q_when (et_B (ev_isiT (ev_var rfl) (ea_cons ev_c (ea_cons ev_c ea_nil)) (by decide) pairT2 (fun _ _ => .base (.bl i)) (kAny2 (by decide +kernel) (by decide +kernel)))) (fun z => nomatch z) fun _ H1 e1 => ?_
      refine q_when (et_B (ev_isi (b := true) (ev_var rfl) (.ty _) (fun _ _ => .base (.bl i)) (kit_ty (by decide +kernel)))) (fun _ H2 e2 => ?_) (fun z => nomatch z)
      refine s_ret (ev_is (ev_andV (ev_isi (b := true) (ev_var rfl) (.ty _) (fun _ _ => .base (.bl i)) (kit_ty (by decide +kernel))) fun _ => ev_andV (ev_op (ev_isi (b := true) (ev_var rfl) (.ty _) (fun _ _ => .base (.bl i)) (kit_ty (by decide +kernel))) (ev_isi (b := true) (ev_var rfl) (.ty _) (fun _ _ => .base (.bl i)) (kit_ty (by decide +kernel))) (rv_eq rfl)) fun _ => ev_op (ev_var rfl) (ev_var rfl) (rv_eqD rfl)) ?_) fun H3 e3 => k H3 (Ex.trans e1 (Ex.trans e2 e3))
      simp
    · refine q_when (et_B (ev_isiT (ev_var rfl) (ea_cons ev_c (ea_cons ev_c ea_nil)) (by decide) pairT2 (fun _ _ => .base (.str i)) (kAny2 (by decide +kernel) (by decide +kernel)))) (fun z => nomatch z) fun _ H1 e1 => ?_
      refine q_when (et_B (ev_isi (b := false) (ev_var rfl) (.ty _) (fun _ _ => .base (.str i)) (kit_ty (by decide +kernel)))) (fun z => nomatch z) (fun _ H2 e2 => ?_)
      refine s_ret (ev_is (ev_andV (ev_isB (ev_isiT (ev_var rfl) (ea_cons ev_c (ea_cons ev_c (ea_cons ev_c (ea_cons ev_c ea_nil)))) (by decide) pairT4 (fun _ _ => .base (.str i)) (kAny4 (by decide +kernel) (by decide +kernel) (by decide +kernel) (by decide +kernel))) ev_c) fun _ => ev_op (ev_var rfl) (ev_var rfl) (rv_eqD rfl)) ?_) fun H3 e3 => k H3 (Ex.trans e1 (Ex.trans e2 e3))
      simp
    · refine q_when (et_B (ev_isiT (ev_var rfl) (ea_cons ev_c (ea_cons ev_c ea_nil)) (by decide) pairT2 (fun _ _ => .base .non) (kAny2 (by decide +kernel) (by decide +kernel)))) (fun z => nomatch z) fun _ H1 e1 => ?_
      refine q_when (et_B (ev_isi (b := false) (ev_var rfl) (.ty _) (fun _ _ => .base .non) (kit_ty (by decide +kernel)))) (fun z => nomatch z) (fun _ H2 e2 => ?_)
      refine s_ret (ev_is (ev_andV (ev_isB (ev_isiT (ev_var rfl) (ea_cons ev_c (ea_cons ev_c (ea_cons ev_c (ea_cons ev_c ea_nil)))) (by decide) pairT4 (fun _ _ => .base .non) (kAny4 (by decide +kernel) (by decide +kernel) (by decide +kernel) (by decide +kernel))) ev_c) fun _ => ev_op (ev_var rfl) (ev_var rfl) (rv_eqD rfl)) ?_) fun H3 e3 => k H3 (Ex.trans e1 (Ex.trans e2 e3))
      simp
    · refine q_when (et_B (ev_isiT (ev_var rfl) (ea_cons ev_c (ea_cons ev_c ea_nil)) (by decide) pairT2 (fun H1 e => .base (.lst (e _ _ hb))) kAnyL)) (fun _ H1 e1 => ?_) (fun z => nomatch z)
      have ha1 := e1 _ _ ha
      have hb1 := e1 _ _ hb
      refine q_when (b := false) (et_is (et_or (et_test (ev_op (ev_isi (b := true) (ev_var rfl) (.ty _) (fun _ e => .base (.lst (e _ _ ha1))) (kit_ty (by decide +kernel))) (ev_isi (b := true) (ev_var rfl) (.ty _) (fun _ e => .base (.lst (e _ _ hb1))) (kit_ty (by decide +kernel))) (rv_ne rfl))) fun _ => et_test (ev_op (ev_isi (b := false) (ev_var rfl) (.ty _) (fun _ e => .base (.lst (e _ _ ha1))) (kit_ty (by decide +kernel))) (ev_isi (b := false) (ev_var rfl) (.ty _) (fun _ e => .base (.lst (e _ _ hb1))) (kit_ty (by decide +kernel))) (rv_ne rfl))) (by simp)) (fun z => nomatch z) fun _ H2 e2 => ?_
      have ha2 := e2 _ _ ha1
      have hb2 := e2 _ _ hb1
      have lc : EvL (tLc (iZipA K (tCons (tVar 0) (tCons (tVar 1) tNil))) (gTup K 2 (gCons (gName 2) (gCons (gName 3) gNil))) tYes (tCall (spSame d) [] E0 (tCons (tVar 2) (tCons (tVar 3) tNil))) [2, 3]) [some (.ref a), some (.ref b), none, none] H2 ((List.range xs.length).map fun _ => V.bl true) :=
        el_lcZ (fun _ => V.bl true) (ev_var rfl) (ev_var rfl) (.inl ⟨ha2, hb2⟩) h1 h2 (fun _ _ => rfl) fun n x y H3 e3 hx hy => ev_call (ea_cons (ev_var rfl) (ea_cons (ev_var rfl) ea_nil)) fun H4 e4 Q q E => ⟨x, y, rfl, (h3 n x y hx hy).ex (Ex.trans e1 (Ex.trans e2 (Ex.trans e3 e4))), fun H5 s5 => q H5 s5⟩
      have hall := ev_all (K := K) (bs := (List.range xs.length).map fun _ => true) (by rw [List.map_map]; exact lc)
      refine s_ret (ev_is (ev_andV (ev_op (ev_lenL (ev_var rfl) ha2) (ev_lenL (ev_var rfl) hb2) (rv_eq rfl)) fun _ => hall) ?_) fun H3 e3 => k H3 (Ex.trans e1 (Ex.trans e2 e3))
      rw [h1]
      simp
    · refine q_when (et_B (ev_isiT (ev_var rfl) (ea_cons ev_c (ea_cons ev_c ea_nil)) (by decide) pairT2 (fun H1 e => .base (.tup (e _ _ hb))) kAnyT)) (fun _ H1 e1 => ?_) (fun z => nomatch z)
      have ha1 := e1 _ _ ha
      have hb1 := e1 _ _ hb
      refine q_when (b := false) (et_is (et_or (et_test (ev_op (ev_isi (b := false) (ev_var rfl) (.ty _) (fun _ e => .base (.tup (e _ _ ha1))) (kit_ty (by decide +kernel))) (ev_isi (b := false) (ev_var rfl) (.ty _) (fun _ e => .base (.tup (e _ _ hb1))) (kit_ty (by decide +kernel))) (rv_ne rfl))) fun _ => et_test (ev_op (ev_isi (b := true) (ev_var rfl) (.ty _) (fun _ e => .base (.tup (e _ _ ha1))) (kit_ty (by decide +kernel))) (ev_isi (b := true) (ev_var rfl) (.ty _) (fun _ e => .base (.tup (e _ _ hb1))) (kit_ty (by decide +kernel))) (rv_ne rfl))) (by simp)) (fun z => nomatch z) fun _ H2 e2 => ?_
      have ha2 := e2 _ _ ha1
      have hb2 := e2 _ _ hb1
      have lc : EvL (tLc (iZipA K (tCons (tVar 0) (tCons (tVar 1) tNil))) (gTup K 2 (gCons (gName 2) (gCons (gName 3) gNil))) tYes (tCall (spSame d) [] E0 (tCons (tVar 2) (tCons (tVar 3) tNil))) [2, 3]) [some (.ref a), some (.ref b), none, none] H2 ((List.range xs.length).map fun _ => V.bl true) :=
        el_lcZ (fun _ => V.bl true) (ev_var rfl) (ev_var rfl) (.inr ⟨ha2, hb2⟩) h1 h2 (fun _ _ => rfl) fun n x y H3 e3 hx hy => ev_call (ea_cons (ev_var rfl) (ea_cons (ev_var rfl) ea_nil)) fun H4 e4 Q q E => ⟨x, y, rfl, (h3 n x y hx hy).ex (Ex.trans e1 (Ex.trans e2 (Ex.trans e3 e4))), fun H5 s5 => q H5 s5⟩
      have hall := ev_all (K := K) (bs := (List.range xs.length).map fun _ => true) (by rw [List.map_map]; exact lc)
      refine s_ret (ev_is (ev_andV (ev_op (ev_lenT (ev_var rfl) ha2) (ev_lenT (ev_var rfl) hb2) (rv_eq rfl)) fun _ => hall) ?_) fun H3 e3 => k H3 (Ex.trans e1 (Ex.trans e2 e3))
      rw [h1]
      simp
    · refine q_when (et_B (ev_isiT (ev_var rfl) (ea_cons ev_c (ea_cons ev_c ea_nil)) (by decide) pairT2 (fun _ e => .base (.dK (e _ _ ha))) (kAny2 (by decide +kernel) (by decide +kernel)))) (fun z => nomatch z) fun _ H1 e1 => ?_
      refine q_when (et_B (ev_isi (b := false) (ev_var rfl) (.ty _) (fun _ e => .base (.dK (e _ _ (e1 _ _ ha)))) (kit_ty (by decide +kernel)))) (fun z => nomatch z) (fun _ H2 e2 => ?_)
      refine s_ret (ev_is (ev_andV (ev_isB (ev_isiT (ev_var rfl) (ea_cons ev_c (ea_cons ev_c (ea_cons ev_c (ea_cons ev_c ea_nil)))) (by decide) pairT4 (fun _ e => .base (.dK (e _ _ (e2 _ _ (e1 _ _ ha))))) (kAny4 (by decide +kernel) (by decide +kernel) (by decide +kernel) (by decide +kernel))) ev_c) fun _ => ev_op (ev_var rfl) (ev_var rfl) (rv_eqDd (e2 _ _ (e1 _ _ ha)) hd)) ?_) fun H3 e3 => k H3 (Ex.trans e1 (Ex.trans e2 e3))
      simp
end
end Lm

namespace Lm
open PySem L2 Evl
theorem ev_fld {K : PySem.W.Frag} {σ : L2.St} {H : Hp} {te : TE} {a C dx : Addr} {fs : List (Str × V)} {f : Str} {v : V} (h : Ev te σ H (.ref a)) (ha : H a = some (.ins C dx fs)) (cl : Cls K C) (n : NoAttr K C f) (hf : fs.lookup f = some v) : Ev (tFld K te f) σ H v := fun H1 e Q q =>
  h H1 e _ fun H2 e2 => ⟨a, C, dx, fs, v, rfl, Ex.trans e e2 _ _ ha, cl, n, hf, q H2 e2⟩
section
variable {P : Program} {w : World} {K : PySem.W.Frag} {mg : Str → Option Value} {base : Heap} {f : Addr} {fd : FuncData}
def spWkPs (C : Addr) : Sp := fun vs H Q _ => ∃ (a : Addr) (nm : Str) (ws : List Str), vs = [.ref a] ∧ WkAt C H a nm ws ∧ ∀ p H', H p = none → Same H H' → H' p = some (.lst (ws.map V.str)) → Q (.ref p) H'
abbrev s_Work_passages : Stmt := inClass (top 12) 1
theorem sc_Work_passages : FnScope ["self"] ["self"] (defScope s_Work_passages) := ⟨rfl, rfl, rfl, by decide +kernel, rfl, by decide +kernel, by decide +kernel⟩
theorem ok_wk_ps {C : Addr} (F : Fun K "passages" "Work.passages" s_Work_passages f fd) (T : Blt mg) (W : WkTxt K C) : FnOk P w K mg base CX0 1 f fd ["self"] (spWkPs C) := by
  refine F.ok sc_Work_passages (fun vs H Q E h => ?_) (fun cdv A outer s H vs Q E hr h => ?_)
  · obtain ⟨a, nm, ws, rfl, _⟩ := h
    rfl
  · obtain ⟨a, nm, ws, rfl, ⟨dx, t, d, h1, h2, h3⟩, k⟩ := h
    refine ⟨_, (pss_one (ps_ret (pe_callTy call_list_of (by rfl) T.b_list (by decide +kernel) (pa_cons (pe_fld (pv 0) rfl) pa_nil)))), ?_⟩
    refine ⟨_, rfl, a, C, dx, _, _, rfl, h1, W.cl, W.nW, wk_words _ _ _, ?_⟩
    refine ⟨t, _, rfl, .inr (SqT.of h2), fun p np => k p _ np (Same.upd' np) upd_same⟩
/-- x in a work: any object -/
def spWkInA (K : PySem.W.Frag) (C : Addr) : Sp := fun vs H Q _ => ∃ (a : Addr) (x : V) (nm : Str) (ws : List Str), vs = [.ref a, x] ∧ WkAt C H a nm ws ∧ ws.Nodup ∧
  ((∃ z : Str, x = .str z ∧ Q (.bl (decide (z ∈ ws))) H) ∨ ∃ t : String, TyX K H x (.type t) ∧ kitB t "str" = some false ∧ Q (.bl false) H)
theorem ok_wk_inA {C : Addr} (F : Fun K "__contains__" "Work.__contains__" s_Work_contains f fd) (T : Blt mg) (W : WkTxt K C) : FnOk P w K mg base CX0 1 f fd ["self", "x"] (spWkInA K C) := by
  refine F.ok sc_Work_contains (fun vs H Q E h => ?_) (fun cdv A outer s H vs Q E hr h => ?_)
  · obtain ⟨a, x, nm, ws, rfl, _⟩ := h
    rfl
  · obtain ⟨a, x, nm, ws, rfl, ⟨dx, t, d, h1, h2, h3⟩, nd, k⟩ := h
    have hu := hu_of hr
    refine ⟨_, (pss_one (ps_ret (pe_and (pe_callB call_isi (by rfl) T.b_isinstance (by decide +kernel) (pa_cons (pv 1) (pa_cons (pe_bltn (v := .ty "str") (u := .type "str") (by rfl) T.b_str (by decide +kernel) rfl) pa_nil))) (pe_one (pe_cmp (pc_din hu (pv 1) (pe_fld (pv 0) rfl)) rfl))))), ?_⟩
    rcases k with ⟨z, rfl, k⟩ | ⟨t', ty, hk, k⟩
    · refine ⟨_, rfl, _, _, _, _, true, rfl, .ty _, .base (.str z), kit_ty (by decide +kernel), true, rfl, ?_⟩
      refine ⟨_, rfl, _, rfl, a, C, dx, _, _, rfl, h1, W.cl, W.nE, wk_ends _ _ _, d, _, rfl, DGet.k (k := Sum.inr z) h3, ?_⟩
      rw [valV_mem nd]
      exact k
    · exact ⟨_, rfl, x, _, _, _, false, rfl, .ty _, ty, kit_ty hk, false, rfl, k⟩
/-- a == y: any object -/
def spWkEqA (K : PySem.W.Frag) (C : Addr) : Sp := fun vs H Q _ => ∃ (a : Addr) (y : V) (nm : Str) (ws : List Str), vs = [.ref a, y] ∧ WkAt C H a nm ws ∧ (∀ x ∈ ws, isW x = true) ∧
  ((∃ (b : Addr) (nm' : Str) (ws' : List Str), y = .ref b ∧ WkAt C H b nm' ws' ∧ (∀ x ∈ ws', isW x = true) ∧ Q (.bl (decide (nm = nm' ∧ ws = ws'))) H) ∨ ∃ t : Value, TyX K H y t ∧ PySem.W.kitOne K t (.ref C) = some false ∧ Q (.bl false) H)
theorem ok_wk_eqA {C : Addr} (F : Fun K "__eq__" "Work.__eq__" s_Work_eq f fd) (T : Blt mg) (W : WkTxt K C) (T' : WkIsi K mg C) : FnOk P w K mg base CX0 1 f fd ["self", "other"] (spWkEqA K C) := by
  refine F.ok sc_Work_eq (fun vs H Q E h => ?_) (fun cdv A outer s H vs Q E hr h => ?_)
  · obtain ⟨a, y, nm, ws, rfl, _⟩ := h
    rfl
  · obtain ⟨a, y, nm, ws, rfl, ⟨dx, t, d, h1, h2, h3⟩, l1, k⟩ := h
    refine ⟨_, (pss_one (ps_ret (pe_and (pe_callB call_isi (by rfl) T.b_isinstance (by decide +kernel) (pa_cons (pv 1) (pa_cons (pe_glob (v := .ref _) rfl T'.g_Work rfl) pa_nil))) (pe_and (pe_cmpR op_eq (pe_fld (pv 0) rfl) (pe_fld (pv 1) rfl) (nomark _)) (pe_one (pe_cmpR (op_eqD hr.units) (pe_fld (pv 0) rfl) (pe_fld (pv 1) rfl) (nomark _))))))), ?_⟩
    rcases k with ⟨b, nm', ws', rfl, ⟨dy, t', d', g1, g2, g3⟩, l2, k⟩ | ⟨t', ty, hk, k⟩
    · refine ⟨_, rfl, _, _, _, _, true, rfl, .own C, .base (.ins g1 W.cl T'.ha T'.hn T'.htk T'.hm), T'.ko, true, rfl, ?_⟩
      refine ⟨_, rfl, a, C, dx, _, _, rfl, h1, W.cl, W.nN, wk_name _ _ _, _, rfl, b, C, dy, _, _, rfl, g1, W.cl, W.nN, wk_name _ _ _, rfl, _, rfl, ite2 (fun hn => ?_) (fun hn => ?_)⟩
      · have hn : nm = nm' := V.str.inj (of_decide_eq_true hn)
        refine ⟨_, rfl, a, C, dx, _, _, rfl, h1, W.cl, W.nW, wk_words _ _ _, _, rfl, b, C, dy, _, _, rfl, g1, W.cl, W.nW, wk_words _ _ _, _, _, .tup (SqT.of h2) (dpAll_strs ws), .tup (SqT.of g2) (dpAll_strs ws'), shaped_strs ws l1, shaped_strs ws' l2, ?_⟩
        have e : decide (nm = nm' ∧ ws = ws') = decide (ws = ws') := by simp [hn]
        rw [e] at k
        rw [eqv_strs]
        exact k
      · have hn : ¬ nm = nm' := fun z => hn (decide_eq_true (congrArg V.str z))
        have e : decide (nm = nm' ∧ ws = ws') = false := by simp [hn]
        rw [e] at k
        exact k
    · exact ⟨_, rfl, y, _, _, _, false, rfl, .own C, ty, hk, false, rfl, k⟩
def spEdPs (CW CE : Addr) : Sp := fun vs H Q _ => ∃ (e wk : Addr) (nm : Str) (ws : List Str) (S : Nat → Bool), vs = [.ref e] ∧ EdAt CW CE H e wk nm ws S ∧ ∀ p H', H p = none → Same H H' → H' p = some (.lst ((pick ws S).map V.str)) → Q (.ref p) H'
abbrev s_Edition_passages : Stmt := inClass (top 13) 1
theorem sc_Edition_passages : FnScope ["self"] ["self"] (defScope s_Edition_passages) := ⟨rfl, rfl, rfl, by decide +kernel, rfl, by decide +kernel, by decide +kernel⟩
theorem ok_ed_ps {CW CE : Addr} (F : Fun K "passages" "Edition.passages" s_Edition_passages f fd) (T : Blt mg) (W : EdTxt K CE) : FnOk P w K mg base CX0 1 f fd ["self"] (spEdPs CW CE) := by
  refine F.ok sc_Edition_passages (fun vs H Q E h => ?_) (fun cdv A outer s H vs Q E hr h => ?_)
  · obtain ⟨e, wk, nm, ws, S, rfl, _⟩ := h
    rfl
  · obtain ⟨e, wk, nm, ws, S, rfl, ⟨⟨dx, t, u, v, h1, h2, h3, h4⟩, _⟩, k⟩ := h
    refine ⟨_, (pss_one (ps_ret (pe_callTy call_list_of (by rfl) T.b_list (by decide +kernel) (pa_cons (pe_fld (pv 0) rfl) pa_nil)))), ?_⟩
    refine ⟨_, rfl, e, CE, dx, _, _, rfl, h1, W.cl, W.nW, ed_words _ _ _ _, ?_⟩
    refine ⟨t, _, rfl, .inr (SqT.of h2), fun p np => k p _ np (Same.upd' np) upd_same⟩
theorem pick_word {ws : List Str} {S : Nat → Bool} (h : ∀ x ∈ ws, isW x = true) : ∀ x ∈ pick ws S, isW x = true := fun x hx => by
  unfold pick at hx
  obtain ⟨i, hi, e⟩ := List.mem_map.mp hx
  have hi := (idx_mem.mp hi).1
  rw [← e]
  exact h _ (List.mem_of_getElem? (nth_at hi))
/-- e == y: any object -/
def spEdEqA (K : PySem.W.Frag) (CW CE : Addr) : Sp := fun vs H Q _ => ∃ (e wk : Addr) (y : V) (nm : Str) (ws : List Str) (S : Nat → Bool), vs = [.ref e, y] ∧ EdAt CW CE H e wk nm ws S ∧ (∀ x ∈ ws, isW x = true) ∧
  ((∃ (e' wk' : Addr) (nm' : Str) (ws' : List Str) (S' : Nat → Bool), y = .ref e' ∧ EdAt CW CE H e' wk' nm' ws' S' ∧ (∀ x ∈ ws', isW x = true) ∧ Q (.bl (decide ((nm = nm' ∧ ws = ws') ∧ pick ws S = pick ws' S'))) H) ∨ ∃ t : Value, TyX K H y t ∧ PySem.W.kitOne K t (.ref CE) = some false ∧ Q (.bl false) H)
abbrev s_Edition_eq : Stmt := inClass (top 13) 13
theorem sc_Edition_eq : FnScope ["self", "other"] ["self", "other"] (defScope s_Edition_eq) := ⟨rfl, rfl, rfl, by decide +kernel, rfl, by decide +kernel, by decide +kernel⟩
theorem ok_ed_eqA {CW CE fE : Addr} {fdE : FuncData} (F : Fun K "__eq__" "Edition.__eq__" s_Edition_eq f fd) (T : Blt mg) (W : EdTxt K CE) (T' : EdIsi K mg CE) (M_Work_eq : MetOk P w K mg base 1 CW "__eq__" fE fdE ["self", "other"] (spWkEqA K CW)) : FnOk P w K mg base CX0 2 f fd ["self", "other"] (spEdEqA K CW CE) := by
  refine F.ok sc_Edition_eq (fun vs H Q E h => ?_) (fun cdv A outer s H vs Q E hr h => ?_)
  · obtain ⟨e, wk, y, nm, ws, S, rfl, _⟩ := h
    rfl
  · obtain ⟨e, wk, y, nm, ws, S, rfl, ⟨⟨dx, t, u, v, h1, h2, h3, h4⟩, hw⟩, l1, k⟩ := h
    refine ⟨_, (pss_one (ps_ret (pe_and (pe_callB call_isi (by rfl) T.b_isinstance (by decide +kernel) (pa_cons (pv 1) (pa_cons (pe_glob (v := .ref _) rfl T'.g_Edition rfl) pa_nil))) (pe_and (pe_cmpR (M_Work_eq.eq (hr.mono (by decide))) (pe_fld (pv 0) rfl) (pe_fld (pv 1) rfl) (nomark _)) (pe_one (pe_cmpR (op_eqD hr.units) (pe_fld (pv 0) rfl) (pe_fld (pv 1) rfl) (nomark _))))))), ?_⟩
    rcases k with ⟨e', wk', nm', ws', S', rfl, ⟨⟨dy, t', u', v', g1, g2, g3, g4⟩, hw'⟩, l2, k⟩ | ⟨t', ty, hk, k⟩
    · obtain ⟨d1, x1, x2, o1, o2, o3⟩ := id hw.ob
      obtain ⟨d2, y1, y2, q1, q2, q3⟩ := id hw'.ob
      refine ⟨_, rfl, _, _, _, _, true, rfl, .own CE, .base (.ins g1 W.cl T'.ha T'.hn T'.htk T'.hm), T'.ko, true, rfl, ?_⟩
      refine ⟨_, rfl, e, CE, dx, _, _, rfl, h1, W.cl, W.nK, ed_work _ _ _ _, _, rfl, e', CE, dy, _, _, rfl, g1, W.cl, W.nK, ed_work _ _ _ _, ?_⟩
      refine ⟨wk, d1, _, wk', d2, _, rfl, rfl, o1, q1, wk, _, nm, ws, rfl, hw, l1, .inl ⟨wk', nm', ws', rfl, hw', l2, ?_⟩⟩
      refine ⟨_, rfl, ite2 (fun hn => ?_) (fun hn => ?_)⟩
      · have hn := of_decide_eq_true hn
        refine ⟨_, rfl, e, CE, dx, _, _, rfl, h1, W.cl, W.nW, ed_words _ _ _ _, _, rfl, e', CE, dy, _, _, rfl, g1, W.cl, W.nW, ed_words _ _ _ _, _, _, .tup (SqT.of h2) (dpAll_strs _), .tup (SqT.of g2) (dpAll_strs _), shaped_strs _ (pick_word l1), shaped_strs _ (pick_word l2), ?_⟩
        have e2 : decide ((nm = nm' ∧ ws = ws') ∧ pick ws S = pick ws' S') = decide (pick ws S = pick ws' S') := by simp [hn]
        rw [e2] at k
        rw [eqv_strs]
        exact k
      · have hn : ¬ (nm = nm' ∧ ws = ws') := fun z => hn (decide_eq_true z)
        have e2 : decide ((nm = nm' ∧ ws = ws') ∧ pick ws S = pick ws' S') = false := decide_eq_false fun z => hn z.1
        rw [e2] at k
        exact k
    · exact ⟨_, rfl, y, _, _, _, false, rfl, .own CE, ty, hk, false, rfl, k⟩
end
end Lm

namespace Lm
open PySem L2 Evl
/-! ### cuts of lists -/
theorem cutV_from (xs : List V) (k : Nat) : cutV xs (some (k : Int)) none = xs.drop k := by
  unfold cutV
  rw [HT.sIx_nat, HT.sIx_none]
  rcases Nat.le_total k xs.length with h | h
  · rw [Nat.min_eq_left h]
    exact List.take_of_length_le (by rw [List.length_drop]; omega)
  · rw [Nat.min_eq_right h, List.drop_of_length_le (Nat.le_refl _), List.drop_of_length_le h]
    simp
theorem cutV_to (xs : List V) (k : Nat) : cutV xs none (some (k : Int)) = xs.take k := by
  unfold cutV
  rw [HT.sIx_nat, HT.sIx_none, List.drop_zero, Nat.sub_zero]
  rcases Nat.le_total k xs.length with h | h
  · rw [Nat.min_eq_left h]
  · rw [Nat.min_eq_right h, List.take_of_length_le (Nat.le_refl _), List.take_of_length_le h]
theorem cutV_last (xs : List V) : cutV xs none (some (-1)) = xs.dropLast := by
  unfold cutV
  rw [HT.sIx_none, List.drop_zero, Nat.sub_zero]
  have : HT.sIx xs.length xs.length (some (-1)) = xs.length - 1 := by
    show (if (-1 : Int) < 0 then ((-1 : Int) + (xs.length : Int)).toNat else min (-1 : Int).toNat xs.length) = _
    rw [if_pos (by decide)]
    omega
  rw [this, List.dropLast_eq_take]
section
variable {K : PySem.W.Frag} {σ : L2.St} {H : Hp} {ta tb : TE}
theorem el_cat {xs ys : List V} (ha : EvL ta σ H xs) (hb : EvL tb σ H ys) (hl : xs.length + ys.length ≤ 100000) : EvL (tOp rCat ta tb) σ H (xs ++ ys) := fun H1 e Q q => ha H1 e _ fun p H2 np e2 hp => hb H2 (Ex.trans e e2) _ fun p' H3 np' e3 hp' =>
  ⟨p, p', xs, ys, rfl, rfl, e3 _ _ hp, hp', sz_of hl, fun r nr => q r _ (fresh_back (Ex.trans e2 e3) nr) ((e2.trans e3).trans (Ex.new nr)) upd_same⟩
theorem el_var {p : Addr} {xs : List V} {i : Nat} : True := trivial
theorem el_catV {p : Addr} {xs ys : List V} (ha : Ev ta σ H (.ref p)) (hp : H p = some (.lst xs)) (hb : EvL tb σ H ys) (hl : xs.length + ys.length ≤ 100000) : EvL (tOp rCat ta tb) σ H (xs ++ ys) := fun H1 e Q q => ha H1 e _ fun H2 e2 => hb H2 (Ex.trans e e2) _ fun p' H3 np' e3 hp' =>
  ⟨p, p', xs, ys, rfl, rfl, Ex.trans e (Ex.trans e2 e3) _ _ hp, hp', sz_of hl, fun r nr => q r _ (fresh_back (Ex.trans e2 e3) nr) ((e2.trans e3).trans (Ex.new nr)) upd_same⟩
theorem el_rev {p : Addr} {xs : List V} (ha : Ev ta σ H (.ref p)) (hp : H p = some (.lst xs)) : EvL (tRevL K ta) σ H xs.reverse := fun H1 e Q q => ha H1 e _ fun H2 e2 => ⟨p, xs, rfl, sq_of (Ex.trans e e2 _ _ hp), fun r nr => q r _ (fresh_back e2 nr) (e2.trans (Ex.new nr)) upd_same⟩
/-- a new work is told -/
def EvW (C : Addr) (te : TE) (σ : L2.St) (H : Hp) (nm : Str) (ws : List Str) : Prop := ∀ H1, Ex H H1 → ∀ Q : VK, (∀ q H2, H1 q = none → Ex H1 H2 → WkAt C H2 q nm ws → Q (.ref q) H2) → te σ H1 Q
theorem evw_mk {C : Addr} {nm : Str} {ws : List Str} (ha : Ev ta σ H (.str nm)) (hb : EvL tb σ H (ws.map V.str)) (hn : isW nm = true) (hw : WOk ws) : EvW C (tMake C (spWkInit C) [] E0 (tCons ta (tCons tb tNil))) σ H nm ws := fun H1 e Q q =>
  ha H1 e _ fun H2 e2 => hb H2 (Ex.trans e e2) _ fun p H3 np e3 hp => mkWk (R := fun x H' => Q (.ref x) H') hn hw (.inl hp) fun x H' nx s3 k => q x H' (fresh_back (Ex.trans e2 e3) nx) ((e2.trans e3).trans s3) k
theorem evw_mkV {C p : Addr} {nm : Str} {ws : List Str} (ha : Ev ta σ H (.str nm)) (hb : Ev tb σ H (.ref p)) (hp : SeqAt H p (ws.map V.str)) (hn : isW nm = true) (hw : WOk ws) : EvW C (tMake C (spWkInit C) [] E0 (tCons ta (tCons tb tNil))) σ H nm ws := fun H1 e Q q =>
  ha H1 e _ fun H2 e2 => hb H2 (Ex.trans e e2) _ fun H3 e3 => mkWk (R := fun x H' => Q (.ref x) H') hn hw (hp.elim (fun h => .inl (Ex.trans e (Ex.trans e2 e3) _ _ h)) fun h => .inr (Ex.trans e (Ex.trans e2 e3) _ _ h)) fun x H' nx s3 k => q x H' (fresh_back (Ex.trans e2 e3) nx) ((e2.trans e3).trans s3) k
theorem EvW.mono {C : Addr} {te : TE} {H' : Hp} {nm : Str} {ws : List Str} (e : Ex H H') (h : EvW C te σ H nm ws) : EvW C te σ H' nm ws := fun H1 a Q q => h H1 (e.trans a) Q q
end
theorem sq_go {te : TE} {g : TG} {tz : TS} {D : Ends} {σ : L2.St} {H : Hp} (h : te σ H fun v H1 => g v σ H1 (tz D)) : tSeq (tAsg te g) tz D σ H := h
section
variable {σ : L2.St} {H : Hp} {ta tb tc : TE} {Q : VK}
theorem go_lst1 (h : ta σ H fun v1 H1 => 1 ≤ sizeLine ∧ ∀ p, H1 p = none → Q (.ref p) (upd H1 p (.lst [v1]))) : tLst (tCons ta tNil) σ H Q := h
theorem go_lst2 (h : ta σ H fun v1 H1 => tb σ H1 fun v2 H2 => 2 ≤ sizeLine ∧ ∀ p, H2 p = none → Q (.ref p) (upd H2 p (.lst [v1, v2]))) : tLst (tCons ta (tCons tb tNil)) σ H Q := h
theorem go_lst3 (h : ta σ H fun v1 H1 => tb σ H1 fun v2 H2 => tc σ H2 fun v3 H3 => 3 ≤ sizeLine ∧ ∀ p, H3 p = none → Q (.ref p) (upd H3 p (.lst [v1, v2, v3]))) : tLst (tCons ta (tCons tb (tCons tc tNil))) σ H Q := h
theorem go_op {r : R2} (h : ta σ H fun x H1 => tb σ H1 fun y H2 => r x y H2 Q) : tOp r ta tb σ H Q := h
theorem go_var {i : Nat} {v : V} (h1 : σ[i]? = some (some v)) (h : Q v H) : tVar i σ H Q := ⟨v, h1, h⟩
end
/-! ### works from words -/
theorem wok_of {ws : List Str} (nd : ws.Nodup) (wd : ∀ x ∈ ws, isW x = true) (l0 : 0 < ws.length) (l1 : ws.length ≤ 60) : WOk ws := ⟨⟨rfl, nd, wd⟩, l0, l1⟩
theorem nodup_app {α : Type} {xs ys : List α} (h1 : xs.Nodup) (h2 : ys.Nodup) (h : ∀ x ∈ xs, x ∉ ys) : (xs ++ ys).Nodup := List.nodup_append.mpr ⟨h1, h2, fun a ha b hb e => h a ha (e ▸ hb)⟩
theorem wok_sub {ws vs : List Str} {q : Str} (h : WOk ws) (hs : vs.Sublist ws) (hq : q ∉ ws) (iq : isW q = true) (l : vs.length < 60) : WOk (vs ++ [q]) :=
  wok_of (nodup_app (h.ok.nd.sublist hs) (List.nodup_cons.mpr ⟨List.not_mem_nil, List.nodup_nil⟩) fun x hx z => hq (by rw [← List.mem_singleton.mp z]; exact hs.mem hx)) (fun x hx => (List.mem_append.mp hx).elim (fun z => h.ok.wd x (hs.mem z)) fun z => by rw [List.mem_singleton.mp z]; exact iq) (by simp) (by simp; omega)
theorem wok_mid {ws : List Str} {q : Str} {k : Nat} (h : WOk ws) (hk : k < ws.length) (hq : q ∉ ws) (iq : isW q = true) : WOk ((ws.take k ++ [q]) ++ ws.drop (k + 1)) := by
  have s1 := List.take_sublist k ws
  have s2 := List.drop_sublist (k + 1) ws
  refine wok_of (nodup_app (nodup_app (h.ok.nd.sublist s1) (List.nodup_cons.mpr ⟨List.not_mem_nil, List.nodup_nil⟩) fun x hx z => hq (by rw [← List.mem_singleton.mp z]; exact s1.mem hx)) (h.ok.nd.sublist s2) fun x hx hy => ?_) (fun x hx => ?_) (by simp; omega) (by have := h.l1; simp; omega)
  · rcases List.mem_append.mp hx with z | z
    · obtain ⟨i, hi, e1⟩ := List.mem_iff_getElem.mp z
      obtain ⟨j, hj, e2⟩ := List.mem_iff_getElem.mp hy
      rw [List.getElem_take] at e1
      rw [List.getElem_drop] at e2
      have hi' : i < k := by rw [List.length_take] at hi; omega
      have hj' : k + 1 + j < ws.length := by rw [List.length_drop] at hj; omega
      have := nd_ix h.ok.nd (i := i) (j := k + 1 + j) (x := x) (by rw [List.getElem?_eq_getElem (by omega), e1]) (by rw [List.getElem?_eq_getElem hj', e2])
      omega
    · rw [List.mem_singleton.mp z] at hy
      exact hq (s2.mem hy)
  · rcases List.mem_append.mp hx with z | z
    · rcases List.mem_append.mp z with z | z
      · exact h.ok.wd x (s1.mem z)
      · rw [List.mem_singleton.mp z]; exact iq
    · exact h.ok.wd x (s2.mem z)
theorem rev_ne {ws : List Str} (nd : ws.Nodup) (h : 1 < ws.length) : ¬ ws = ws.reverse := fun e => by
  have h1 : ws[0]? = ws.reverse[0]? := by rw [← e]
  rw [List.getElem?_reverse (by omega)] at h1
  have := nd_ix nd (i := 0) (j := ws.length - 1 - 0) (x := ws[0]) (by rw [List.getElem?_eq_getElem (by omega)]) (by rw [← h1, List.getElem?_eq_getElem (by omega)])
  omega
/-- other works than that of nm and ws -/
def OthW (C : Addr) (nm : Str) (ws : List Str) (H : Hp) (a : Addr) : Prop := ∃ nm' ws', WkAt C H a nm' ws' ∧ (∀ x ∈ ws', isW x = true) ∧ ¬ (nm = nm' ∧ ws = ws')
theorem OthW.same {C : Addr} {nm : Str} {ws : List Str} {H H' : Hp} {a : Addr} (h : OthW C nm ws H a) (e : Same H H') : OthW C nm ws H' a := let ⟨n, v, h1, h2, h3⟩ := h; ⟨n, v, h1.same e, h2, h3⟩
theorem OthW.kp {C st : Addr} {nm : Str} {ws : List Str} {H H' : Hp} {a : Addr} {xs : List V} (h : OthW C nm ws H a) (e : Kp st H H') (hs : H st = some (.lst xs)) : OthW C nm ws H' a := let ⟨n, v, h1, h2, h3⟩ := h; ⟨n, v, h1.kp e hs, h2, h3⟩
def rfs (as : List Addr) : List V := as.map V.ref
section
variable {P : Program} {w : World} {K : PySem.W.Frag} {mg : Str → Option Value} {base : Heap} {f : Addr} {fd : FuncData}
def spMany : Sp := fun vs H Q _ => ∃ (st c : Addr), vs = [.ref st] ∧ StAt H st c ∧ ∀ (m : Nat) H', 1 ≤ m → m ≤ 60 → StAt H' st c → Kp st H H' → Q (.int m) H'
def spHanded : Sp := fun vs H Q _ => ∃ (st c a : Addr) (xs : List V), vs = [.ref st, .ref a] ∧ StAt H st c ∧ a ≠ st ∧ H a = some (.lst xs) ∧ ∀ p H', H p = none → StAt H' st c → Kp st H H' → SeqAt H' p xs → Q (.ref p) H'
abbrev s_handed : Stmt := top 26
theorem sc_handed : FnScope ["_law_state", "_law_things"] ["_law_state", "_law_things"] (defScope s_handed) := ⟨rfl, rfl, rfl, by decide +kernel, rfl, by decide +kernel, by decide +kernel⟩
theorem ok_handed {fT : Addr} {fdT : FuncData} (F : Fun K "_law_handed" "_law_handed" s_handed f fd) (T : Blt mg) (D_take : DefOk P w K mg base 2 "_law_take" fT fdT ["_law_state", "_law_many"] spTake) : FnOk P w K mg base CX0 3 f fd ["_law_state", "_law_things"] spHanded := by
  refine F.ok sc_handed (fun vs H Q E h => ?_) (fun cdv A outer s H vs Q E hr h => ?_)
  · obtain ⟨st, c, a, xs, rfl, _⟩ := h
    rfl
  · obtain ⟨st, c, a, xs, rfl, S, hn, ha, k⟩ := h
    refine ⟨_, (pss_one (ps_ret (pe_ifExp (pt_cmpR op_eq (pe_d D_take (hr.mono (by decide)) (pa_cons (pv 0) (pa_cons pe_int pa_nil))) pe_int (nomark _)) (pe_callTy call_list_of (by rfl) T.b_list (by decide +kernel) (pa_cons (pv 1) pa_nil)) (pe_callTy call_tuple_of (by rfl) T.b_tuple (by decide +kernel) (pa_cons (pv 1) pa_nil))))), ?_⟩
    refine ⟨_, rfl, st, c, 2, rfl, S, by decide, by decide, fun d H2 d0 d1 S2 e2 => ?_⟩
    have ha2 := e2 _ _ hn ha
    refine ⟨rfl, _, rfl, ite2 (fun _ => ?_) (fun _ => ?_)⟩
    · exact ⟨_, rfl, a, xs, rfl, .inl (SqL.of ha2), fun l nl => k l _ (e2.free (S2.of_new nl).1 nl) (S2.same (Same.upd' nl)) (e2.trans (Kp.of (Same.upd' nl))) (.inl upd_same)⟩
    · exact ⟨_, rfl, a, xs, rfl, .inl ⟨SqL.of ha2, fun l nl => k l _ (e2.free (S2.of_new nl).1 nl) (S2.same (Same.upd' nl)) (e2.trans (Kp.of (Same.upd' nl))) (.inr upd_same)⟩⟩
/-- all but a list at p stays -/
def KpL (p : Addr) (H H' : Hp) : Prop := ∀ b o, H b = some o → (b = p → ∀ xs, o ≠ .lst xs) → H' b = some o
theorem WkAt.kpl {C p : Addr} {H H' : Hp} {a : Addr} {nm : Str} {ws : List Str} (k : WkAt C H a nm ws) (e : KpL p H H') : WkAt C H' a nm ws := by
  obtain ⟨⟨dx, t, d, h1, h2, h3⟩⟩ := k
  exact ⟨⟨dx, t, d, e _ _ h1 (fun _ _ z => nomatch z), e _ _ h2 (fun _ _ z => nomatch z), e _ _ h3 (fun _ _ z => nomatch z)⟩⟩
theorem EdAt.kpl {CW CE p : Addr} {H H' : Hp} {a wk : Addr} {nm : Str} {ws : List Str} {S : Nat → Bool} (k : EdAt CW CE H a wk nm ws S) (e : KpL p H H') : EdAt CW CE H' a wk nm ws S := by
  obtain ⟨⟨dx, t, u, v, h1, h2, h3, h4⟩, h5⟩ := k
  exact ⟨⟨dx, t, u, v, e _ _ h1 (fun _ _ z => nomatch z), e _ _ h2 (fun _ _ z => nomatch z), e _ _ h3 (fun _ _ z => nomatch z), e _ _ h4 (fun _ _ z => nomatch z)⟩, h5.kpl e⟩
theorem StAt.kpl {H H' : Hp} {st c p : Addr} (S : StAt H st c) (e : KpL p H H') (h1 : p ≠ st) (h2 : p ≠ c) : StAt H' st c := by
  obtain ⟨⟨n, l, b, g1⟩, ⟨ns, g2, g3⟩, ne⟩ := S
  exact ⟨⟨n, l, b, e _ _ g1 (fun z => (h1 z.symm).elim)⟩, ⟨ns, e _ _ g2 (fun z => (h2 z.symm).elim), g3⟩, ne⟩
def spSpoilt : Sp := fun vs H Q _ => ∃ (p : Addr) (xs : List V), vs = [.ref p] ∧ SeqAt H p xs ∧ xs.length ≤ 60 ∧ ∀ H', KpL p H H' → Q .non H'
def spOthers (C : Addr) : Sp := fun vs H Q _ => ∃ (st c r : Addr) (nm : Str) (ws : List Str), vs = [.ref st, .str nm, .ref r] ∧ StAt H st c ∧ r ≠ st ∧ H r = some (.lst (ws.map V.str)) ∧ WOk ws ∧ isW nm = true ∧ nm ≠ "q" ∧ ("q" : Str) ∉ ws ∧
  ∀ p as H', H p = none → StAt H' st c → Kp st H H' → H' p = some (.lst (rfs as)) → as.length ≤ 10 → (∀ a ∈ as, OthW C nm ws H' a) → Q (.ref p) H'
def OthM (C st : Addr) (nm : Str) (ws : List Str) (r : Addr) (H : Hp) (n : Nat) (σ : L2.St) (H' : Hp) : Prop := ∃ l as, σ = [some (.ref st), some (.str nm), some (.ref r), some (.ref l), none] ∧ Same H H' ∧ H l = none ∧ H' l = some (.lst (rfs as)) ∧ as.length ≤ n ∧ ∀ a ∈ as, OthW C nm ws H' a
theorem iq : isW "q" = true := by decide +kernel
end
end Lm

namespace Lm
open PySem L2
theorem EdAt.congr {CW CE : Addr} {H : Hp} {a wk : Addr} {nm : Str} {ws : List Str} {S T : Nat → Bool} (k : EdAt CW CE H a wk nm ws S) (h : ∀ i < ws.length, S i = T i) : EdAt CW CE H a wk nm ws T := by
  obtain ⟨⟨dx, t, u, v, h1, h2, h3, h4⟩, h5⟩ := k
  have e : ∀ c ≤ ws.length, idx c S = idx c T := fun c hc => List.filter_congr fun i hi => h i (by have := List.mem_range.mp hi; omega)
  have e1 : cutsL ws.length S = cutsL ws.length T := by unfold cutsL; rw [e _ (Nat.le_refl _)]
  have e2 : countsL ws.length S = countsL ws.length T := by
    unfold countsL
    refine List.map_congr_left fun c hc => ?_
    have := List.mem_range.mp hc
    unfold cnt
    rw [e c (by omega)]
  exact ⟨⟨dx, t, u, v, h1, by rw [← pick_congr h]; exact h2, by rw [← e1]; exact h3, by rw [← e2]; exact h4⟩, h5⟩
section
variable {P : Program} {w : World} {K : PySem.W.Frag} {mg : Str → Option Value} {base : Heap} {f : Addr} {fd : FuncData}
structure WkNe (K : PySem.W.Frag) (C : Addr) : Prop where
  ne_Work : PySem.W.findIn K (.ref C) "__ne__" = some (some (.builtin "object.__ne__"))
  ob_Work : PySem.W.subIn K (.ref C) (.type "object") = some true
def spOneW (CW CE : Addr) : Sp := fun vs H Q _ => ∃ (a b wk wk' : Addr) (nm : Str) (ws : List Str) (S T : Nat → Bool), vs = [.ref a, .ref b] ∧ EdAt CW CE H a wk nm ws S ∧ EdAt CW CE H b wk' nm ws T ∧ WOk ws ∧ Q .non H
abbrev s_require_one_work : Stmt := top 16
theorem sc_require_one_work : FnScope ["one", "other"] ["one", "other"] (defScope s_require_one_work) := ⟨rfl, rfl, rfl, by decide +kernel, rfl, by decide +kernel, by decide +kernel⟩
theorem ok_onew {CW CE fE : Addr} {fdE : FuncData} (F : Fun K "require_one_work" "require_one_work" s_require_one_work f fd) (W : EdTxt K CE) (T : WkNe K CW) (M_Work_eq : MetOk P w K mg base 1 CW "__eq__" fE fdE ["self", "other"] (spWkEq CW)) :
    FnOk P w K mg base CX0 3 f fd ["one", "other"] (spOneW CW CE) := by
  refine F.ok sc_require_one_work (fun vs H Q E h => ?_) (fun cdv A outer s H vs Q E hr h => ?_)
  · obtain ⟨a, b, wk, wk', nm, ws, S, U, rfl, _⟩ := h
    rfl
  · obtain ⟨a, b, wk, wk', nm, ws, S, U, rfl, he, hf, hw, k⟩ := h
    obtain ⟨dx, t, u, v, h1, h2, h3, h4⟩ := id he.ob
    obtain ⟨dy, t', u', v', g1, g2, g3, g4⟩ := id hf.ob
    obtain ⟨dw, tw, ew, o1, _, _⟩ := id he.wk.ob
    obtain ⟨dw', tw', ew', o1', _, _⟩ := id hf.wk.ob
    refine ⟨_, (pss_one (ps_if (pt_cmpR (M_Work_eq.ne T.ne_Work T.ob_Work (hr.mono (by decide))) (pe_fld (pv 0) rfl) (pe_fld (pv 1) rfl) (nomark _)) (pss_one ps_never) pss_nil)), ?_⟩
    refine ⟨_, rfl, a, CE, dx, _, _, rfl, h1, W.cl, W.nK, ed_work _ _ _ _, _, rfl, b, CE, dy, _, _, rfl, g1, W.cl, W.nK, ed_work _ _ _ _, ?_⟩
    refine ⟨wk, dw, _, wk', dw', _, rfl, rfl, o1, o1', wk, wk', nm, nm, ws, ws, rfl, he.wk, hf.wk, hw.ok.wd, hw.ok.wd, ?_⟩
    rw [decide_eq_true (show nm = nm ∧ ws = ws from ⟨rfl, rfl⟩)]
    exact ⟨true, rfl, _, rfl, k⟩
/-- both editions are of equal works; what is made is of the first one's -/
def spJoin (CW CE : Addr) (op : Bool → Bool → Bool) : Sp := fun vs H Q _ => ∃ (a b wk wk' : Addr) (nm : Str) (ws : List Str) (S T : Nat → Bool), vs = [.ref a, .ref b] ∧ EdAt CW CE H a wk nm ws S ∧ EdAt CW CE H b wk' nm ws T ∧ WOk ws ∧
  ∀ p H', H p = none → Same H H' → EdAt CW CE H' p wk nm ws (fun i => op (S i) (T i)) → Q (.ref p) H'
abbrev s_Edition_and : Stmt := inClass (top 13) 8
theorem sc_Edition_and : FnScope ["self", "other", "word"] ["self", "other"] (defScope s_Edition_and) := ⟨rfl, rfl, rfl, by decide +kernel, rfl, by decide +kernel, by decide +kernel⟩
theorem ok_and {CW CE fO fE : Addr} {fdO fdE : FuncData} (F : Fun K "__and__" "Edition.__and__" s_Edition_and f fd) (W : EdTxt K CE) (D_require_one_work : DefOk P w K mg base 3 "require_one_work" fO fdO ["one", "other"] (spOneW CW CE))
    (K_Edition : ClsOk P w K mg base 4 "Edition" CE fE fdE ["self", "work", "passages"] (spEdInit CW CE)) : FnOk P w K mg base CX0 6 f fd ["self", "other"] (spJoin CW CE fun a b => a && b) := by
  refine F.ok sc_Edition_and (fun vs H Q E h => ?_) (fun cdv A outer s H vs Q E hr h => ?_)
  · obtain ⟨a, b, wk, wk', nm, ws, S, U, rfl, _⟩ := h
    rfl
  · obtain ⟨a, b, wk, wk', nm, ws, S, U, rfl, he, hf, hw, k⟩ := h
    obtain ⟨dx, t, u, v, h1, h2, h3, h4⟩ := id he.ob
    obtain ⟨dy, t', u', v', g1, g2, g3, g4⟩ := id hf.ob
    refine ⟨_, (pss_cons (ps_expr (pe_d D_require_one_work (hr.mono (by decide)) (pa_cons (pv 0) (pa_cons (pv 1) pa_nil))))
        (pss_one (ps_ret (pe_mk K_Edition (hr.mono (by decide)) (by exact (pa_cons (pe_fld (pv 0) rfl) (pa_cons (pe_lc (own := [("word", 2)]) (g := gName 2) (tt := (tTest (tOp (rIn K false) (tVar 2) (tFld K (tVar 1) "words")))) (te := (tVar 2)) rfl sc_Edition_and.nd (pi_tup (pe_fld (pv 0) rfl)) (blkOk_by (own := [("word", 2)]) (by kernel_rfl)) (fun _ _ _ _ _ => (pg_name (i := 2) sc_Edition_and.nd rfl (by first | exact Or.inl rfl | exact Or.inr rfl))) (fun _ _ _ _ _ => by exact (pts_one (pt_cmpR op_in_seq (pv 2) (pe_fld (pv 1) rfl) (by rfl)))) (fun _ _ _ _ _ => by exact (pv 2))) pa_nil))))))), ?_⟩
    refine ⟨_, rfl, _, rfl, a, b, wk, wk', nm, ws, S, U, rfl, he, hf, hw, ?_⟩
    refine ⟨_, rfl, a, CE, dx, _, _, rfl, h1, W.cl, W.nK, ed_work _ _ _ _, ?_⟩
    refine ⟨_, rfl, a, CE, dx, _, _, rfl, h1, W.cl, W.nW, ed_words _ _ _ _, t, rfl, ⟨_, SqT.of h2⟩, fun D nD => ?_⟩
    refine lc_tup (K := K) (a := t) (xs := (pick ws S).map V.str) (fun i H' => Same H H' ∧ H' D = some (.lst ((((idx ws.length S).take i).filter U).map fun j => V.str (ws.getD j no)))) ⟨Same.upd' nD, upd_same⟩ (fun i H' _ p => SqT.of (p.1 _ _ h2)) ?_ ?_
    · rintro i x H' hx ⟨e, hD⟩
      have hi : i < (idx ws.length S).length := by
        have := (List.getElem?_eq_some_iff.mp hx).1
        unfold pick at this
        simpa using this
      obtain ⟨j, hj⟩ : ∃ j, (idx ws.length S)[i]? = some j := ⟨_, List.getElem?_eq_getElem hi⟩
      have hjm := idx_mem.mp (List.mem_of_getElem? hj)
      rw [pick_at hj] at hx
      cases (Option.some.inj hx)
      refine ⟨rfl, _, rfl, _, rfl, b, CE, dy, _, _, rfl, e _ _ g1, W.cl, W.nW, ed_words _ _ _ _, t', _, rfl, .inr (SqT.of (e _ _ g2)), rfl, strs_flat _, _, rfl, ?_⟩
      show if inV (.str (ws.getD j no)) ((pick ws U).map V.str) = true then _ else _
      rw [strs_in, pick_in hw.ok.nd hjm.1]
      have hlen : (((idx ws.length S).take i).filter U).length ≤ 60 := Nat.le_trans (List.length_filter_le _ _) (Nat.le_trans (by simp; omega) (Nat.le_trans (idx_len ws.length S) hw.l1))
      refine ite2 (fun hU => ?_) (fun hU => ?_)
      · refine ⟨_, rfl, _, hD, small1000 (by rw [List.length_map]; omega), Same.mut e nD, ?_⟩
        rw [upd_same, List.take_succ, hj]
        simp [hU]
      · refine ⟨e, ?_⟩
        rw [hD, List.take_succ, hj]
        simp [hU]
    · rintro H' ⟨e, hD⟩
      have hl : ((pick ws S).map V.str).length = (idx ws.length S).length := by rw [List.length_map]; unfold pick; rw [List.length_map]
      rw [hl, List.take_length, filter_and] at hD
      refine mkEd (S := fun i => S i && U i) (he.wk.same e) hw (.inl ?_) fun x H2 nx e2 hx => k x H2 (Same.free e nx) (Same.trans e e2) hx
      rw [hD]
      unfold pick
      rw [List.map_map]
      rfl
abbrev s_Edition_sub : Stmt := inClass (top 13) 10
theorem sc_Edition_sub : FnScope ["self", "other", "word"] ["self", "other"] (defScope s_Edition_sub) := ⟨rfl, rfl, rfl, by decide +kernel, rfl, by decide +kernel, by decide +kernel⟩
theorem ok_sub {CW CE fO fE : Addr} {fdO fdE : FuncData} (F : Fun K "__sub__" "Edition.__sub__" s_Edition_sub f fd) (W : EdTxt K CE) (D_require_one_work : DefOk P w K mg base 3 "require_one_work" fO fdO ["one", "other"] (spOneW CW CE))
    (K_Edition : ClsOk P w K mg base 4 "Edition" CE fE fdE ["self", "work", "passages"] (spEdInit CW CE)) : FnOk P w K mg base CX0 6 f fd ["self", "other"] (spJoin CW CE fun a b => a && !b) := by
  refine F.ok sc_Edition_sub (fun vs H Q E h => ?_) (fun cdv A outer s H vs Q E hr h => ?_)
  · obtain ⟨a, b, wk, wk', nm, ws, S, U, rfl, _⟩ := h
    rfl
  · obtain ⟨a, b, wk, wk', nm, ws, S, U, rfl, he, hf, hw, k⟩ := h
    obtain ⟨dx, t, u, v, h1, h2, h3, h4⟩ := id he.ob
    obtain ⟨dy, t', u', v', g1, g2, g3, g4⟩ := id hf.ob
    refine ⟨_, (pss_cons (ps_expr (pe_d D_require_one_work (hr.mono (by decide)) (pa_cons (pv 0) (pa_cons (pv 1) pa_nil))))
        (pss_one (ps_ret (pe_mk K_Edition (hr.mono (by decide)) (by exact (pa_cons (pe_fld (pv 0) rfl) (pa_cons (pe_lc (own := [("word", 2)]) (g := gName 2) (tt := (tTest (tOp (rIn K true) (tVar 2) (tFld K (tVar 1) "words")))) (te := (tVar 2)) rfl sc_Edition_sub.nd (pi_tup (pe_fld (pv 0) rfl)) (blkOk_by (own := [("word", 2)]) (by kernel_rfl)) (fun _ _ _ _ _ => (pg_name (i := 2) sc_Edition_sub.nd rfl (by first | exact Or.inl rfl | exact Or.inr rfl))) (fun _ _ _ _ _ => by exact (pts_one (pt_cmpR op_notIn_seq (pv 2) (pe_fld (pv 1) rfl) (by rfl)))) (fun _ _ _ _ _ => by exact (pv 2))) pa_nil))))))), ?_⟩
    refine ⟨_, rfl, _, rfl, a, b, wk, wk', nm, ws, S, U, rfl, he, hf, hw, ?_⟩
    refine ⟨_, rfl, a, CE, dx, _, _, rfl, h1, W.cl, W.nK, ed_work _ _ _ _, ?_⟩
    refine ⟨_, rfl, a, CE, dx, _, _, rfl, h1, W.cl, W.nW, ed_words _ _ _ _, t, rfl, ⟨_, SqT.of h2⟩, fun D nD => ?_⟩
    refine lc_tup (K := K) (a := t) (xs := (pick ws S).map V.str) (fun i H' => Same H H' ∧ H' D = some (.lst ((((idx ws.length S).take i).filter fun j => !U j).map fun j => V.str (ws.getD j no)))) ⟨Same.upd' nD, upd_same⟩ (fun i H' _ p => SqT.of (p.1 _ _ h2)) ?_ ?_
    · rintro i x H' hx ⟨e, hD⟩
      have hi : i < (idx ws.length S).length := by
        have := (List.getElem?_eq_some_iff.mp hx).1
        unfold pick at this
        simpa using this
      obtain ⟨j, hj⟩ : ∃ j, (idx ws.length S)[i]? = some j := ⟨_, List.getElem?_eq_getElem hi⟩
      have hjm := idx_mem.mp (List.mem_of_getElem? hj)
      rw [pick_at hj] at hx
      cases (Option.some.inj hx)
      refine ⟨rfl, _, rfl, _, rfl, b, CE, dy, _, _, rfl, e _ _ g1, W.cl, W.nW, ed_words _ _ _ _, t', _, rfl, .inr (SqT.of (e _ _ g2)), rfl, strs_flat _, _, rfl, ?_⟩
      show if (!inV (.str (ws.getD j no)) ((pick ws U).map V.str)) = true then _ else _
      rw [strs_in, pick_in hw.ok.nd hjm.1]
      have hlen : (((idx ws.length S).take i).filter fun j => !U j).length ≤ 60 := Nat.le_trans (List.length_filter_le _ _) (Nat.le_trans (by simp; omega) (Nat.le_trans (idx_len ws.length S) hw.l1))
      refine ite2 (fun hU => ?_) (fun hU => ?_)
      · refine ⟨_, rfl, _, hD, small1000 (by rw [List.length_map]; omega), Same.mut e nD, ?_⟩
        have hU : U j = false := by simpa using hU
        rw [upd_same, List.take_succ, hj]
        simp [hU]
      · refine ⟨e, ?_⟩
        have hU : U j = true := by simpa using hU
        rw [hD, List.take_succ, hj]
        simp [hU]
    · rintro H' ⟨e, hD⟩
      have hl : ((pick ws S).map V.str).length = (idx ws.length S).length := by rw [List.length_map]; unfold pick; rw [List.length_map]
      rw [hl, List.take_length, filter_and] at hD
      refine mkEd (S := fun i => S i && !U i) (he.wk.same e) hw (.inl ?_) fun x H2 nx e2 hx => k x H2 (Same.free e nx) (Same.trans e e2) hx
      rw [hD]
      unfold pick
      rw [List.map_map]
      rfl
abbrev s_Edition_or : Stmt := inClass (top 13) 9
theorem sc_Edition_or : FnScope ["self", "other", "either", "word"] ["self", "other"] (defScope s_Edition_or) := ⟨rfl, rfl, rfl, by decide +kernel, rfl, by decide +kernel, by decide +kernel⟩
theorem ok_or {CW CE fO fE : Addr} {fdO fdE : FuncData} (F : Fun K "__or__" "Edition.__or__" s_Edition_or f fd) (W : EdTxt K CE) (W' : WkTxt K CW) (D_require_one_work : DefOk P w K mg base 3 "require_one_work" fO fdO ["one", "other"] (spOneW CW CE))
    (K_Edition : ClsOk P w K mg base 4 "Edition" CE fE fdE ["self", "work", "passages"] (spEdInit CW CE)) : FnOk P w K mg base CX0 6 f fd ["self", "other"] (spJoin CW CE fun a b => a || b) := by
  refine F.ok sc_Edition_or (fun vs H Q E h => ?_) (fun cdv A outer s H vs Q E hr h => ?_)
  · obtain ⟨a, b, wk, wk', nm, ws, S, U, rfl, _⟩ := h
    rfl
  · obtain ⟨a, b, wk, wk', nm, ws, S, U, rfl, he, hf, hw, k⟩ := h
    obtain ⟨dx, t, u, v, h1, h2, h3, h4⟩ := id he.ob
    obtain ⟨dy, t', u', v', g1, g2, g3, g4⟩ := id hf.ob
    obtain ⟨dw, tw, ew, o1, o2, o3⟩ := id he.wk.ob
    refine ⟨_, (pss_cons (ps_expr (pe_d D_require_one_work (hr.mono (by decide)) (pa_cons (pv 0) (pa_cons (pv 1) pa_nil))))
        (pss_cons (ps_setLc (i := 2) (own := [("word", 3)]) (g := gName 3) (tt := (tOr (tTest (tOp (rIn K false) (tVar 3) (tFld K (tVar 0) "words"))) (tTest (tOp (rIn K false) (tVar 3) (tFld K (tVar 1) "words"))))) (te := (tVar 3)) rfl sc_Edition_or.nd rfl rfl (sw_true rfl rfl rfl (by decide +kernel)) (pi_tup (pe_fld (pe_fld (pv 0) rfl) rfl)) (blkOk_by (own := [("word", 3)]) (by kernel_rfl)) (fun _ _ _ _ _ => (pg_name (i := 3) sc_Edition_or.nd rfl (by first | exact Or.inl rfl | exact Or.inr rfl))) (fun _ _ _ _ _ => by exact (pts_one (PW.pt (pw_or (pt_cmpR op_in_seq (pv 3) (pe_fld (pv 0) rfl) (by rfl)) (pw_or1 (pt_cmpR op_in_seq (pv 3) (pe_fld (pv 1) rfl) (by rfl))))))) (fun _ _ _ _ _ => by exact (pv 3)))
        (pss_one (ps_ret (pe_mk K_Edition (hr.mono (by decide)) (pa_cons (pe_fld (pv 0) rfl) (pa_cons (pv 2) pa_nil))))))), ?_⟩
    refine ⟨_, rfl, _, rfl, a, b, wk, wk', nm, ws, S, U, rfl, he, hf, hw, ?_⟩
    refine ⟨_, rfl, a, CE, dx, _, _, rfl, h1, W.cl, W.nK, ed_work _ _ _ _, wk, CW, dw, _, _, rfl, o1, W'.cl, W'.nW, wk_words _ _ _, tw, rfl, ⟨_, SqT.of o2⟩, fun D nD => ?_⟩
    refine lc_tup (K := K) (a := tw) (xs := ws.map V.str) (fun i H' => Same H H' ∧ H' D = some (.lst (((List.range i).filter fun j => S j || U j).map fun j => V.str (ws.getD j no)))) ⟨Same.upd' nD, upd_same⟩ (fun i H' _ p => SqT.of (p.1 _ _ o2)) ?_ ?_
    · rintro i x H' hx ⟨e, hD⟩
      have hi : i < ws.length := by
        have := (List.getElem?_eq_some_iff.mp hx).1
        simpa using this
      rw [List.getElem?_map, nth_at hi] at hx
      cases (Option.some.inj hx)
      have hlen : ((List.range i).filter fun j => S j || U j).length ≤ 60 := Nat.le_trans (List.length_filter_le _ _) (by have := hw.l1; simp; omega)
      have no_ : (S i || U i) = false → Same H H' ∧ H' D = some (.lst (((List.range (i + 1)).filter fun j => S j || U j).map fun j => V.str (ws.getD j no))) := fun hb => ⟨e, by rw [hD, List.range_succ, List.filter_append]; simp [hb]⟩
      have yes_ : (S i || U i) = true → Same H (upd H' D (.lst ((((List.range i).filter fun j => S j || U j).map fun j => V.str (ws.getD j no)) ++ [.str (ws.getD i no)]))) ∧ (upd H' D (.lst ((((List.range i).filter fun j => S j || U j).map fun j => V.str (ws.getD j no)) ++ [.str (ws.getD i no)]))) D = some (.lst (((List.range (i + 1)).filter fun j => S j || U j).map fun j => V.str (ws.getD j no))) :=
        fun hb => ⟨Same.mut e nD, by rw [upd_same, List.range_succ, List.filter_append]; simp [hb]⟩
      refine ⟨rfl, _, rfl, _, rfl, a, CE, dx, _, _, rfl, e _ _ h1, W.cl, W.nW, ed_words _ _ _ _, t, _, rfl, .inr (SqT.of (e _ _ h2)), rfl, strs_flat _, _, rfl, ?_⟩
      show if inV (.str (ws.getD i no)) ((pick ws S).map V.str) = true then _ else _
      rw [strs_in, pick_in hw.ok.nd hi]
      refine ite2 (fun hS => ?_) (fun hS => ?_)
      · exact ⟨_, rfl, _, hD, small1000 (by rw [List.length_map]; omega), yes_ (by simp [hS])⟩
      · refine ⟨_, rfl, _, rfl, b, CE, dy, _, _, rfl, e _ _ g1, W.cl, W.nW, ed_words _ _ _ _, t', _, rfl, .inr (SqT.of (e _ _ g2)), rfl, strs_flat _, _, rfl, ?_⟩
        show if inV (.str (ws.getD i no)) ((pick ws U).map V.str) = true then _ else _
        rw [strs_in, pick_in hw.ok.nd hi]
        refine ite2 (fun hU => ?_) (fun hU => ?_)
        · exact ⟨_, rfl, _, hD, small1000 (by rw [List.length_map]; omega), yes_ (by simp [hU])⟩
        · exact no_ (by simp [hS, hU])
    · rintro H' ⟨e, hD⟩
      rw [List.length_map] at hD
      refine ⟨_, rfl, a, CE, dx, _, _, rfl, e _ _ h1, W.cl, W.nK, ed_work _ _ _ _, _, rfl, ?_⟩
      refine mkEd (S := fun i => S i || U i) (he.wk.same e) hw (.inl ?_) fun x H2 nx e2 hx => k x H2 (Same.free e nx) (Same.trans e e2) hx
      rw [hD]
      unfold pick
      rw [List.map_map]
      rfl
def spLe (CW CE : Addr) : Sp := fun vs H Q _ => ∃ (a b wk wk' : Addr) (nm : Str) (ws : List Str) (S T : Nat → Bool), vs = [.ref a, .ref b] ∧ EdAt CW CE H a wk nm ws S ∧ EdAt CW CE H b wk' nm ws T ∧ WOk ws ∧
  ∀ H', Same H H' → Q (.bl ((idx ws.length S).all T)) H'
abbrev s_Edition_le : Stmt := inClass (top 13) 11
theorem sc_Edition_le : FnScope ["self", "other", "word"] ["self", "other"] (defScope s_Edition_le) := ⟨rfl, rfl, rfl, by decide +kernel, rfl, by decide +kernel, by decide +kernel⟩
theorem ok_le {CW CE fO : Addr} {fdO : FuncData} (F : Fun K "__le__" "Edition.__le__" s_Edition_le f fd) (T : Blt mg) (W : EdTxt K CE) (D_require_one_work : DefOk P w K mg base 3 "require_one_work" fO fdO ["one", "other"] (spOneW CW CE)) :
    FnOk P w K mg base CX0 4 f fd ["self", "other"] (spLe CW CE) := by
  refine F.ok sc_Edition_le (fun vs H Q E h => ?_) (fun cdv A outer s H vs Q E hr h => ?_)
  · obtain ⟨a, b, wk, wk', nm, ws, S, U, rfl, _⟩ := h
    rfl
  · obtain ⟨a, b, wk, wk', nm, ws, S, U, rfl, he, hf, hw, k⟩ := h
    obtain ⟨dx, t, u, v, h1, h2, h3, h4⟩ := id he.ob
    obtain ⟨dy, t', u', v', g1, g2, g3, g4⟩ := id hf.ob
    refine ⟨_, (pss_cons (ps_expr (pe_d D_require_one_work (hr.mono (by decide)) (pa_cons (pv 0) (pa_cons (pv 1) pa_nil))))
        (pss_one (ps_ret (pe_callB (cr_all rfl) (by rfl) T.b_all (by decide +kernel) (by exact (pa_cons (pe_lc (own := [("word", 2)]) (g := gName 2) (tt := tYes) (te := (tOp (rIn K false) (tVar 2) (tFld K (tVar 1) "words"))) rfl sc_Edition_le.nd (pi_tup (pe_fld (pv 0) rfl)) (blkOk_by (own := [("word", 2)]) (by kernel_rfl)) (fun _ _ _ _ _ => (pg_name (i := 2) sc_Edition_le.nd rfl (by first | exact Or.inl rfl | exact Or.inr rfl))) (fun _ _ _ _ _ => pts_nil) (fun _ _ _ _ _ => by exact (pe_cmpR op_in_seq (pv 2) (pe_fld (pv 1) rfl) (by rfl)))) pa_nil)))))), ?_⟩
    refine ⟨_, rfl, _, rfl, a, b, wk, wk', nm, ws, S, U, rfl, he, hf, hw, ?_⟩
    refine ⟨_, rfl, a, CE, dx, _, _, rfl, h1, W.cl, W.nW, ed_words _ _ _ _, t, rfl, ⟨_, SqT.of h2⟩, fun D nD => ?_⟩
    refine lc_tup (K := K) (a := t) (xs := (pick ws S).map V.str) (fun i H' => Same H H' ∧ H' D = some (.lst ((((idx ws.length S).take i).map U).map V.bl))) ⟨Same.upd' nD, upd_same⟩ (fun i H' _ p => SqT.of (p.1 _ _ h2)) ?_ ?_
    · rintro i x H' hx ⟨e, hD⟩
      have hi : i < (idx ws.length S).length := by
        have := (List.getElem?_eq_some_iff.mp hx).1
        unfold pick at this
        simpa using this
      obtain ⟨j, hj⟩ : ∃ j, (idx ws.length S)[i]? = some j := ⟨_, List.getElem?_eq_getElem hi⟩
      have hjm := idx_mem.mp (List.mem_of_getElem? hj)
      rw [pick_at hj] at hx
      cases (Option.some.inj hx)
      refine ⟨rfl, _, rfl, _, rfl, b, CE, dy, _, _, rfl, e _ _ g1, W.cl, W.nW, ed_words _ _ _ _, t', _, rfl, .inr (SqT.of (e _ _ g2)), rfl, strs_flat _, _, hD, small1000 (by simp; have := idx_len ws.length S; have := hw.l1; omega), Same.mut e nD, ?_⟩
      rw [upd_same]
      show some (HO.lst (_ ++ [V.bl (inV (.str (ws.getD j no)) ((pick ws U).map V.str))])) = _
      rw [strs_in, pick_in hw.ok.nd hjm.1, List.take_succ, hj]
      simp
    · rintro H' ⟨e, hD⟩
      have hl : ((pick ws S).map V.str).length = (idx ws.length S).length := by rw [List.length_map]; unfold pick; rw [List.length_map]
      rw [hl, List.take_length] at hD
      refine ⟨_, _, rfl, SqL.of hD, ?_⟩
      have q := k H' e
      have e2 : ((idx ws.length S).map U).all id = (idx ws.length S).all U := by rw [List.all_map]; rfl
      rw [← e2] at q
      exact q
end
end Lm

namespace Lm
open PySem L2
/-! ### carried over all but the tables -/
theorem WkAt.extn {C : Addr} {H H' : Hp} {a : Addr} {nm : Str} {ws : List Str} (k : WkAt C H a nm ws) (e : LamX.ExtN H H') : WkAt C H' a nm ws := by
  obtain ⟨⟨dx, t, d, h1, h2, h3⟩⟩ := k
  exact ⟨⟨dx, t, d, e _ _ h1 (fun _ z => by cases z), e _ _ h2 (fun _ z => by cases z), e _ _ h3 (fun _ z => by cases z)⟩⟩
theorem EdAt.extn {CW CE : Addr} {H H' : Hp} {a wk : Addr} {nm : Str} {ws : List Str} {S : Nat → Bool} (k : EdAt CW CE H a wk nm ws S) (e : LamX.ExtN H H') : EdAt CW CE H' a wk nm ws S := by
  obtain ⟨⟨dx, t, u, v, h1, h2, h3, h4⟩, h5⟩ := k
  exact ⟨⟨dx, t, u, v, e _ _ h1 (fun _ z => by cases z), e _ _ h2 (fun _ z => by cases z), e _ _ h3 (fun _ z => by cases z), e _ _ h4 (fun _ z => by cases z)⟩, h5.extn e⟩
theorem StAt.extn {H H' : Hp} {st c : Addr} (S : StAt H st c) (e : LamX.ExtN H H') : StAt H' st c := by
  obtain ⟨⟨n, l, b, h⟩, ⟨ns, h2, h3⟩, ne⟩ := S
  exact ⟨⟨n, l, b, e _ _ h (fun _ z => by cases z)⟩, ⟨ns, e _ _ h2 (fun _ z => by cases z), h3⟩, ne⟩
theorem Tabs_mut {T : List (Addr × Str)} {H : Hp} {l : Addr} {xs : List V} {o : HO} (t : LamX.Tabs T H) (hl : H l = some (.lst xs)) : LamX.Tabs T (upd H l o) := fun p hp => by
  obtain ⟨ps, h1, h2, h3⟩ := t p hp
  refine ⟨ps, by rw [upd_ne (ne_of h1 hl (by intro z; cases z))]; exact h1, h2, fun pos cv hc => ?_⟩
  obtain ⟨c, e1, e2⟩ := h3 pos cv hc
  exact ⟨c, e1, by rw [upd_ne (ne_of e2 hl (by intro z; cases z))]; exact e2⟩
theorem ExtN_mut {H H' : Hp} {l : Addr} {o : HO} (e : LamX.ExtN H H') (nl : ∀ o, H l = some o → ∃ ps, o = .tbl ps) : LamX.ExtN H (upd H' l o) := fun b u h n => by
  rw [upd_ne (fun z => by subst z; obtain ⟨ps, q⟩ := nl u h; exact n ps q)]
  exact e b u h n
theorem Tabs_kp {T : List (Addr × Str)} {H H' : Hp} {st : Addr} {xs : List V} (t : LamX.Tabs T H) (e : Kp st H H') (hs : H st = some (.lst xs)) : LamX.Tabs T H' := fun p hp => by
  obtain ⟨ps, h1, h2, h3⟩ := t p hp
  refine ⟨ps, e _ _ (ne_of h1 hs (by intro z; cases z)) h1, h2, fun pos cv hc => ?_⟩
  obtain ⟨c, e1, e2⟩ := h3 pos cv hc
  exact ⟨c, e1, e _ _ (ne_of e2 hs (by intro z; cases z)) e2⟩
theorem Tabs_st {T : List (Addr × Str)} {H H' : Hp} {st c : Addr} (t : LamX.Tabs T H) (e : Kp st H H') (S : StAt H st c) : LamX.Tabs T H' := let ⟨⟨_, _, _, h⟩, _, _⟩ := S; Tabs_kp t e h
theorem free_of {H H' : Hp} {l : Addr} (e : LamX.ExtN H H') (nl : H' l = none) : ∀ o, H l = some o → ∃ ps, o = .tbl ps := fun o ho => Classical.byContradiction fun hc => by
  have := e l o ho fun ps z => hc ⟨ps, z⟩
  rw [nl] at this
  cases this
/-- all but st and the tables -/
def KpN (st : Addr) (H H' : Hp) : Prop := ∀ b o, b ≠ st → H b = some o → (∀ ps, o ≠ .tbl ps) → H' b = some o
theorem KpN.refl (st : Addr) (H : Hp) : KpN st H H := fun _ _ _ h _ => h
theorem KpN.trans {st : Addr} {H H1 H2 : Hp} (a : KpN st H H1) (b : KpN st H1 H2) : KpN st H H2 := fun c o n h t => b c o n (a c o n h t) t
theorem KpN.of {st : Addr} {H H' : Hp} (e : Kp st H H') : KpN st H H' := fun b o n h _ => e b o n h
theorem KpN.ofN {st : Addr} {H H' : Hp} (e : LamX.ExtN H H') : KpN st H H' := fun b o _ h n => e b o h n
theorem KpN.lst {st l : Addr} {H H' : Hp} {xs : List V} (e : KpN st H H') (n : l ≠ st) (h : H l = some (.lst xs)) : H' l = some (.lst xs) := e _ _ n h fun _ z => by cases z
theorem WkAt.kpn {C st : Addr} {H H' : Hp} {a : Addr} {nm : Str} {ws : List Str} {xs : List V} (k : WkAt C H a nm ws) (e : KpN st H H') (hs : H st = some (.lst xs)) : WkAt C H' a nm ws := by
  obtain ⟨⟨dx, t, d, h1, h2, h3⟩⟩ := k
  exact ⟨⟨dx, t, d, e _ _ (ne_of h1 hs (by intro z; cases z)) h1 (fun _ z => by cases z), e _ _ (ne_of h2 hs (by intro z; cases z)) h2 (fun _ z => by cases z), e _ _ (ne_of h3 hs (by intro z; cases z)) h3 (fun _ z => by cases z)⟩⟩
theorem EdAt.kpn {CW CE st : Addr} {H H' : Hp} {a wk : Addr} {nm : Str} {ws : List Str} {S : Nat → Bool} {xs : List V} (k : EdAt CW CE H a wk nm ws S) (e : KpN st H H') (hs : H st = some (.lst xs)) : EdAt CW CE H' a wk nm ws S := by
  obtain ⟨⟨dx, t, u, v, h1, h2, h3, h4⟩, h5⟩ := k
  exact ⟨⟨dx, t, u, v, e _ _ (ne_of h1 hs (by intro z; cases z)) h1 (fun _ z => by cases z), e _ _ (ne_of h2 hs (by intro z; cases z)) h2 (fun _ z => by cases z), e _ _ (ne_of h3 hs (by intro z; cases z)) h3 (fun _ z => by cases z), e _ _ (ne_of h4 hs (by intro z; cases z)) h4 (fun _ z => by cases z)⟩, h5.kpn e hs⟩
end Lm

namespace Lm
open PySem L2 Evl RZ
/-! ### objects of any kind; a work that is refused -/
def NoRow (K : PySem.W.Frag) (H : Hp) (x : V) : Prop := ∃ t : Value, (∀ H', Ex H H' → TyX K H' x t) ∧ PySem.W.kitAny K t [.type "list", .type "tuple"] = some false
def NoStr (K : PySem.W.Frag) (H : Hp) (x : V) : Prop := ∃ t : Value, (∀ H', Ex H H' → TyX K H' x t) ∧ PySem.W.kitOne K t (.type "str") = some false
theorem NoRow.ex {K : PySem.W.Frag} {H H' : Hp} {x : V} (e : Ex H H') (h : NoRow K H x) : NoRow K H' x := let ⟨t, h1, h2⟩ := h; ⟨t, fun H2 e2 => h1 H2 (Ex.trans e e2), h2⟩
theorem NoStr.ex {K : PySem.W.Frag} {H H' : Hp} {x : V} (e : Ex H H') (h : NoStr K H x) : NoStr K H' x := let ⟨t, h1, h2⟩ := h; ⟨t, fun H2 e2 => h1 H2 (Ex.trans e e2), h2⟩
/-- x is a word or not -/
def WdV (K : PySem.W.Frag) (H : Hp) (v : V) (b : Bool) : Prop := (∃ s : Str, v = .str s ∧ s.cps.size ≤ 1000 ∧ b = isW s) ∨ (NoStr K H v ∧ b = false)
theorem WdV.ex {K : PySem.W.Frag} {H H' : Hp} {x : V} {b : Bool} (e : Ex H H') (h : WdV K H x b) : WdV K H' x b := h.imp id fun h => ⟨h.1.ex e, h.2⟩
/-- the error of one field is raised -/
def Rs (CB : Addr) (fn : Str) (v : V) (H : Hp) (E : XK) : Prop := ∀ H' d, Same H H' → H' d = none → E (.ref CB) (some d) (upd H' d (.xd [(fn, v)]))
theorem Rs.same {CB : Addr} {fn : Str} {v : V} {H H' : Hp} {E : XK} (k : Rs CB fn v H E) (e : Same H H') : Rs CB fn v H' E := fun H2 d e2 nd => k H2 d (Same.trans e e2) nd
theorem SeqAt.same {H H' : Hp} {a : Addr} {xs : List V} (e : Same H H') (h : SeqAt H a xs) : SeqAt H' a xs := h.imp (fun h => e _ _ h) fun h => e _ _ h
theorem ev_lenQ {K : PySem.W.Frag} {σ : L2.St} {H : Hp} {te : TE} {p : Addr} {xs : List V} (ha : Ev te σ H (.ref p)) (h : SeqAt H p xs) : Ev (tCB (rLenS K) (tCons te tNil)) σ H (.int (xs.length : Int)) := h.elim (fun h => ev_lenL ha h) fun h => ev_lenT ha h
/-- what is kept for an own error's __init__ -/
structure ErrI (P : Program) (w : World) (K : PySem.W.Frag) (mg : Str → Option Value) (base : Heap) (C fI : Addr) (fdI : FuncData) (fn : Str) : Prop where
  ok : FnOk P w K mg base CX0 1 fI fdI ["self", fn] (spErrI C fn)
  bd : Binds K fdI ["self", fn] []
/-- C(x), raised -/
theorem pmk_errF {X : Cx} {x fn : Str} {C fI : Addr} {fdI : FuncData} {e : Expr} {te : TE} {p pos : Pos} (T : ErrF X.K X.mg x C fI fn) (I : ErrI X.prog X.w X.K X.mg X.base C fI fdI fn) (hr : Room 2 X.A) (ha : PA X [e] (tCons te tNil)) (hg : Gl X x := by rfl) (hdb : (x == ("__debug__" : Str)) = false := by decide)
    (hst : starEach [e] X.env = (false, eval e X.env) :: starEach [] X.env := by rfl) (hpl : (backTo pos (starEach [] X.env)).any (·.1) = false := by rfl) : PMk X (.Call (.Name x p) [e] [] pos) (tMkO C (spErrI C fn) [] (tCons te tNil)) :=
  pmk_oex T.T T.ini T.ty I.ok hr I.bd .nil pass0 hg T.g ha hdb hst hpl
theorem FnOk.or' {P : Program} {w : World} {K : PySem.W.Frag} {mg : Str → Option Value} {base : Heap} {CX : CXT} {k : Nat} {f : Addr} {fd : FuncData} {ps : List Str} {sp sp' : Sp} (A : FnOk P w K mg base CX k f fd ps sp) (B : FnOk P w K mg base CX k f fd ps sp') :
    FnOk P w K mg base CX k f fd ps (fun vs H Q E => sp vs H Q E ∨ sp' vs H Q E) :=
  ⟨fun vs H Q E h => h.elim (A.len vs H Q E) (B.len vs H Q E), fun C outer s H args us vs Q E hr he hb hv hs => hs.elim (A.run C outer s H args us vs Q E hr he hb hv) (B.run C outer s H args us vs Q E hr he hb hv)⟩
section
variable {P : Program} {w : World} {K : PySem.W.Frag} {mg : Str → Option Value} {base : Heap} {f : Addr} {fd : FuncData}
def spIsRowA (K : PySem.W.Frag) : Sp := fun vs H Q _ => ∃ x, vs = [x] ∧ ((∃ a xs, x = .ref a ∧ SeqAt H a xs ∧ ∀ H', Same H H' → Q (.bl true) H') ∨ (NoRow K H x ∧ ∀ H', Same H H' → Q (.bl false) H'))
theorem ok_is_rowA (F : L2.Fun K "is_row" "is_row" s_is_row f fd) (T : Blt mg) : FnOk P w K mg base CX0 1 f fd ["x"] (spIsRowA K) := by
  refine F.ok sc_is_row (fun vs H Q E h => ?_) (fun cdv A outer s H vs Q E hr h => ?_)
  · obtain ⟨x, rfl, _⟩ := h
    rfl
  · obtain ⟨x, rfl, k⟩ := h
    refine ⟨_, (pss_one (ps_ret (pe_callB call_isiT (by rfl) T.b_isinstance (by decide +kernel) (pa_cons (pv 0) (pa_cons (pe_tup (pa_cons (pe_bltn (v := .ty "list") (u := .type "list") (by rfl) T.b_list (by decide +kernel) rfl) (pa_cons (pe_bltn (v := .ty "tuple") (u := .type "tuple") (by rfl) T.b_tuple (by decide +kernel) rfl) pa_nil))) pa_nil))))), ?_⟩
    refine ⟨_, rfl, by show 2 ≤ sizeLine; decide, fun p np => ?_⟩
    rcases k with ⟨a, xs, rfl, hq, k⟩ | ⟨⟨t, ty, hk⟩, k⟩
    · rcases hq with hq | hq
      · exact ⟨_, _, _, _, _, true, rfl, upd_same, .cons (.ty _) (.cons (.ty _) .nil), .base (.lst (by rw [upd_ne (ne_of_none hq np)]; exact hq)), kitAny_cons (b := true) (kit_ty (by decide +kernel)) (fun z => nomatch z) (fun _ => rfl), k _ (Same.upd' np)⟩
      · exact ⟨_, _, _, _, _, true, rfl, upd_same, .cons (.ty _) (.cons (.ty _) .nil), .base (.tup (by rw [upd_ne (ne_of_none hq np)]; exact hq)), kitAny_cons (b := false) (kit_ty (by decide +kernel)) (fun _ => kitAny_cons (b := true) (kit_ty (by decide +kernel)) (fun z => nomatch z) (fun _ => rfl)) (fun z => nomatch z), k _ (Same.upd' np)⟩
    · exact ⟨_, _, _, _, _, false, rfl, upd_same, .cons (.ty _) (.cons (.ty _) .nil), ty _ (Same.upd' np), hk, k _ (Same.upd' np)⟩
def spIsWordA (K : PySem.W.Frag) : Sp := fun vs H Q _ => ∃ (x : V) (b : Bool), vs = [x] ∧ WdV K H x b ∧ ∀ H', Same H H' → Q (.bl b) H'
theorem ok_is_wordA (F : L2.Fun K "is_word" "is_word" s_is_word f fd) (T : Blt mg) {tL tW : Tok} (T' : Cst mg tL tW) : FnOk P w K mg base CX0 1 f fd ["x"] (spIsWordA K) := by
  refine (Lm.FnOk.or' (ok_is_word F T T') (sp' := fun vs H Q _ => ∃ x : V, vs = [x] ∧ NoStr K H x ∧ ∀ H', Same H H' → Q (.bl false) H') ?_).imp fun vs H Q E ⟨x, b, e, h, k⟩ => ?_
  · refine F.ok sc_is_word (fun vs H Q E h => ?_) (fun cdv A outer s H vs Q E hr h => ?_)
    · obtain ⟨x, rfl, _⟩ := h
      rfl
    · obtain ⟨x, rfl, ⟨t, ty, hk⟩, k⟩ := h
      refine ⟨_, (pss_cons (ps_if (pt_not (pt_val (pe_callB call_isi (by rfl) T.b_isinstance (by decide +kernel) (pa_cons (pv 0) (pa_cons (pe_bltn (v := .ty "str") (u := .type "str") (by rfl) T.b_str (by decide +kernel) rfl) pa_nil))))) (pss_one (ps_ret pe_bl)) pss_nil)
        (pss_one (ps_ret (pe_and (pe_chain op_le op_le pe_int (pe_callB call_len_str (by rfl) T.b_len PySem.boot_len (pa_cons (pv 0) pa_nil)) (pe_glob (v := c_LONGEST_WORD) rfl T'.g_LONGEST_WORD ⟨_, rfl⟩)) (pe_one (pe_callB (cr_all rfl) (by rfl) T.b_all (by decide +kernel) (by exact (pa_cons (pe_lc (own := [("sign", 1)]) (g := gName 1) (tt := tYes)/- R cmp -/ rfl sc_is_word.nd (pi_str (pv 0)) (blkOk_by (own := [("sign", 1)]) (by kernel_rfl)) (fun _ _ _ _ _ => (pg_name (i := 1) sc_is_word.nd rfl (by first | exact Or.inl rfl | exact Or.inr rfl))) (fun _ _ _ _ _ => pts_nil) (fun _ _ _ _ _ => by exact (pe_cmpR op_in_sign (pv 1) (pe_glob (v := c_LETTERS) rfl T'.g_LETTERS ⟨_, rfl⟩) rfl))) pa_nil)))))))), ?_⟩
      exact q_when (et_not (et_B (ev_isi (b := false) (ev_var rfl) (.ty _) ty hk))) (fun _ H1 e1 => s_ret ev_c fun H2 e2 => k H2 (Ex.trans e1 e2)) (fun z => nomatch z)
  · rcases h with ⟨s, rfl, h1, rfl⟩ | ⟨h1, rfl⟩
    · exact .inl ⟨s, e, h1, k⟩
    · exact .inr ⟨x, e, h1, k⟩
abbrev s_BadWord_init : Stmt := inClass (top 8) 0
theorem sc_BadWord_init : FnScope ["self", "word"] ["self", "word"] (defScope s_BadWord_init) := ⟨rfl, rfl, rfl, by decide +kernel, rfl, by decide +kernel, by decide +kernel⟩
theorem ok_bad_word {C : Addr} (F : L2.Fun K "__init__" "BadWord.__init__" s_BadWord_init f fd) (T : OexC K C) (hno : PySem.W.findIn K (.ref C) "word" = some none) : FnOk P w K mg base CX0 1 f fd ["self", "word"] (spErrI C "word") := by
  refine F.ok sc_BadWord_init (fun vs H Q E h => ?_) (fun cdv A outer s H vs Q E hr h => ?_)
  · obtain ⟨a, v, rfl, _⟩ := h
    rfl
  · obtain ⟨a, v, rfl, ha, k⟩ := h
    refine ⟨_, (pss_one (ps_ost (pv 0) (pv 1) rfl)), ?_⟩
    exact ⟨_, rfl, _, rfl, a, C, rfl, T, hno, .inl ⟨ha, fun dx ndx hda => k dx ndx hda⟩⟩
abbrev s_BadPassage_init : Stmt := inClass (top 9) 0
theorem sc_BadPassage_init : FnScope ["self", "index"] ["self", "index"] (defScope s_BadPassage_init) := ⟨rfl, rfl, rfl, by decide +kernel, rfl, by decide +kernel, by decide +kernel⟩
theorem ok_bad_passage {C : Addr} (F : L2.Fun K "__init__" "BadPassage.__init__" s_BadPassage_init f fd) (T : OexC K C) (hno : PySem.W.findIn K (.ref C) "index" = some none) : FnOk P w K mg base CX0 1 f fd ["self", "index"] (spErrI C "index") := by
  refine F.ok sc_BadPassage_init (fun vs H Q E h => ?_) (fun cdv A outer s H vs Q E hr h => ?_)
  · obtain ⟨a, v, rfl, _⟩ := h
    rfl
  · obtain ⟨a, v, rfl, ha, k⟩ := h
    refine ⟨_, (pss_one (ps_ost (pv 0) (pv 1) rfl)), ?_⟩
    exact ⟨_, rfl, _, rfl, a, C, rfl, T, hno, .inl ⟨ha, fun dx ndx hda => k dx ndx hda⟩⟩
end
end Lm

namespace Lm
open PySem L2 Evl RZ
/-! ### things of lists and tuples, told by their shape -/
inductive Sh where
  | v (u : V)
  | l (ss : List Sh)
  | t (ss : List Sh)
/-- flat things -/
def flt (u : V) : Prop := (∃ i, u = .int i) ∨ (∃ b, u = .bl b) ∨ (∃ s, u = .str s) ∨ u = .non
/-- at x stands a thing of the shape s, of depth below d, of objects of B -/
def RepB (H : Hp) (B : Addr → Prop) : Nat → V → Sh → Prop
  | 0 => fun _ _ => False
  | d + 1 => fun x s => match s with
    | .v u => x = u ∧ flt u
    | .l ss => ∃ a xs, x = .ref a ∧ B a ∧ H a = some (.lst xs) ∧ xs.length = ss.length ∧ xs.length ≤ 40000 ∧ ∀ (i : Nat) y s', xs[i]? = some y → ss[i]? = some s' → RepB H B d y s'
    | .t ss => ∃ a xs, x = .ref a ∧ B a ∧ H a = some (.tup xs) ∧ xs.length = ss.length ∧ xs.length ≤ 40000 ∧ ∀ (i : Nat) y s', xs[i]? = some y → ss[i]? = some s' → RepB H B d y s'
abbrev Rep (H : Hp) : Nat → V → Sh → Prop := RepB H fun _ => True
theorem RepB.mono {H H' : Hp} {B B' : Addr → Prop} (e : ∀ a o, B a → H a = some o → (∀ ps, o ≠ .tbl ps) → B' a ∧ H' a = some o) : ∀ {d : Nat} {x : V} {s : Sh}, RepB H B d x s → RepB H' B' d x s
  | 0, _, _, h => h
  | d + 1, x, .v u, h => h
  | d + 1, x, .l ss, ⟨a, xs, h1, hb, h2, h3, h4, h5⟩ => let ⟨q1, q2⟩ := e a _ hb h2 (fun _ z => by cases z); ⟨a, xs, h1, q1, q2, h3, h4, fun i y s' q1 q2 => RepB.mono e (h5 i y s' q1 q2)⟩
  | d + 1, x, .t ss, ⟨a, xs, h1, hb, h2, h3, h4, h5⟩ => let ⟨q1, q2⟩ := e a _ hb h2 (fun _ z => by cases z); ⟨a, xs, h1, q1, q2, h3, h4, fun i y s' q1 q2 => RepB.mono e (h5 i y s' q1 q2)⟩
theorem RepB.ex {H H' : Hp} {B : Addr → Prop} (e : Ex H H') {d : Nat} {x : V} {s : Sh} (h : RepB H B d x s) : RepB H' B d x s := h.mono fun a o b q _ => ⟨b, e _ _ q⟩
theorem Rep.extn {H H' : Hp} (e : LamX.ExtN H H') {d : Nat} {x : V} {s : Sh} (h : Rep H d x s) : Rep H' d x s := RepB.mono (fun a o b q n => ⟨b, e _ _ q n⟩) h
theorem RepB.rep {H : Hp} {B : Addr → Prop} {d : Nat} {x : V} {s : Sh} (h : RepB H B d x s) : Rep H d x s := h.mono fun a o b q _ => ⟨trivial, q⟩
theorem RepB.imp {H : Hp} {B B' : Addr → Prop} (e : ∀ a, B a → H a ≠ none → B' a) {d : Nat} {x : V} {s : Sh} (h : RepB H B d x s) : RepB H B' d x s := h.mono fun a o b q _ => ⟨e a b (by rw [q]; simp), q⟩
theorem Rep.on {H : Hp} {d : Nat} {x : V} {s : Sh} (h : Rep H d x s) : RepB H (fun a => H a ≠ none) d x s := RepB.imp (fun a _ q => q) h
theorem RepB.up {H : Hp} {B : Addr → Prop} : ∀ {d : Nat} {x : V} {s : Sh}, RepB H B d x s → RepB H B (d + 1) x s
  | 0, _, _, h => h.elim
  | d + 1, x, .v u, h => h
  | d + 1, x, .l ss, ⟨a, xs, h1, hb, h2, h3, h4, h5⟩ => ⟨a, xs, h1, hb, h2, h3, h4, fun i y s' q1 q2 => RepB.up (h5 i y s' q1 q2)⟩
  | d + 1, x, .t ss, ⟨a, xs, h1, hb, h2, h3, h4, h5⟩ => ⟨a, xs, h1, hb, h2, h3, h4, fun i y s' q1 q2 => RepB.up (h5 i y s' q1 q2)⟩
theorem flt.same {H : Hp} {d : Nat} {u : V} (h : flt u) : SameV H (d + 1) u u := by
  rcases h with ⟨i, rfl⟩ | ⟨i, rfl⟩ | ⟨i, rfl⟩ | rfl
  · exact .int i
  · exact .bl i
  · exact .str i
  · exact .non
theorem Rep.same {H : Hp} : ∀ {d : Nat} {x y : V} {s : Sh}, Rep H d x s → Rep H d y s → SameV H d x y
  | 0, _, _, _, h, _ => h.elim
  | d + 1, x, y, .v u, ⟨h1, h2⟩, ⟨g1, _⟩ => by
    subst h1 g1
    exact h2.same
  | d + 1, x, y, .l ss, ⟨a, xs, h1, _, h2, h3, h4, h5⟩, ⟨b, ys, g1, _, g2, g3, g4, g5⟩ => by
    subst h1 g1
    exact .lst h2 g2 (h3.trans g3.symm) h4 fun i u v q1 q2 => by
      have hi : i < ss.length := by rw [← h3]; exact (List.getElem?_eq_some_iff.mp q1).1
      exact Rep.same (h5 i u _ q1 (List.getElem?_eq_getElem hi)) (g5 i v _ q2 (List.getElem?_eq_getElem hi))
  | d + 1, x, y, .t ss, ⟨a, xs, h1, _, h2, h3, h4, h5⟩, ⟨b, ys, g1, _, g2, g3, g4, g5⟩ => by
    subst h1 g1
    exact .tup h2 g2 (h3.trans g3.symm) h4 fun i u v q1 q2 => by
      have hi : i < ss.length := by rw [← h3]; exact (List.getElem?_eq_some_iff.mp q1).1
      exact Rep.same (h5 i u _ q1 (List.getElem?_eq_getElem hi)) (g5 i v _ q2 (List.getElem?_eq_getElem hi))
theorem rep_flat {H : Hp} {B : Addr → Prop} {d : Nat} {a : Addr} {xs : List V} (hb : B a) (h : H a = some (.lst xs)) (hl : xs.length ≤ 40000) (hf : ∀ x ∈ xs, flt x) : RepB H B (d + 2) (.ref a) (.l (xs.map .v)) :=
  ⟨a, xs, rfl, hb, h, by simp, hl, fun i y s' q1 q2 => by
    rw [List.getElem?_map, q1] at q2
    cases (Option.some.inj q2)
    exact ⟨rfl, hf y (List.mem_of_getElem? q1)⟩⟩
theorem rep_flatT {H : Hp} {B : Addr → Prop} {d : Nat} {a : Addr} {xs : List V} (hb : B a) (h : H a = some (.tup xs)) (hl : xs.length ≤ 40000) (hf : ∀ x ∈ xs, flt x) : RepB H B (d + 2) (.ref a) (.t (xs.map .v)) :=
  ⟨a, xs, rfl, hb, h, by simp, hl, fun i y s' q1 q2 => by
    rw [List.getElem?_map, q1] at q2
    cases (Option.some.inj q2)
    exact ⟨rfl, hf y (List.mem_of_getElem? q1)⟩⟩
/-- what stood in H, or is new behind H1 -/
def Nb (H H1 : Hp) (a : Addr) : Prop := H a ≠ none ∨ H1 a = none
theorem Nb.back {H H1 H2 : Hp} {a : Addr} (e : Ex H1 H2) (h : Nb H H2 a) : Nb H H1 a := h.imp id (fresh_back e)
/-- a thing of a shape is told -/
def EvS (te : TE) (σ : L2.St) (H : Hp) (d : Nat) (s : Sh) : Prop := ∀ H1, Ex H H1 → ∀ Q : VK, (∀ v H2, Ex H1 H2 → RepB H2 (Nb H H1) d v s → Q v H2) → te σ H1 Q
def RepA (H : Hp) (B : Addr → Prop) (d : Nat) (vs : List V) (ss : List Sh) : Prop := vs.length = ss.length ∧ ∀ (i : Nat) y s', vs[i]? = some y → ss[i]? = some s' → RepB H B d y s'
def EvSA (ta : TA) (σ : L2.St) (H : Hp) (d : Nat) (ss : List Sh) : Prop := ∀ H1, Ex H H1 → ∀ Q : List V → Hp → Prop, (∀ vs H2, Ex H1 H2 → RepA H2 (Nb H H1) d vs ss → Q vs H2) → ta σ H1 Q
section
variable {K : PySem.W.Frag} {σ : L2.St} {H H' : Hp} {te ta tb : TE} {tr : TA} {d : Nat} {s : Sh} {ss : List Sh} {B : Addr → Prop}
theorem EvS.mono (e : Ex H H') (h : EvS te σ H d s) : EvS te σ H' d s := fun H1 a Q q => h H1 (e.trans a) Q fun v H2 e2 r => q v H2 e2 (r.imp fun b hb _ => hb.imp (fun z => by
  cases hh : H b with
  | none => exact absurd hh z
  | some o => rw [e _ _ hh]; simp) id)
theorem es_is {s' : Sh} (h : EvS te σ H d s) (e : s = s') : EvS te σ H d s' := e ▸ h
theorem es_up (h : EvS te σ H d s) : EvS te σ H (d + 1) s := fun H1 e Q q => h H1 e _ fun v H2 e2 r => q v H2 e2 r.up
theorem es_v {u : V} (h : Ev te σ H u) (hf : flt u) : EvS te σ H (d + 1) (.v u) := fun H1 e Q q => h H1 e _ fun H2 e2 => q u H2 e2 ⟨rfl, hf⟩
theorem es_i {i : Int} (h : Ev te σ H (.int i)) : EvS te σ H (d + 1) (.v (.int i)) := es_v h (.inl ⟨i, rfl⟩)
theorem es_b {i : Bool} (h : Ev te σ H (.bl i)) : EvS te σ H (d + 1) (.v (.bl i)) := es_v h (.inr (.inl ⟨i, rfl⟩))
theorem es_s {i : Str} (h : Ev te σ H (.str i)) : EvS te σ H (d + 1) (.v (.str i)) := es_v h (.inr (.inr (.inl ⟨i, rfl⟩)))
theorem es_n (h : Ev te σ H .non) : EvS te σ H (d + 1) (.v .non) := es_v h (.inr (.inr (.inr rfl)))
theorem es_var {i : Nat} {v : V} (h : σ[i]? = some (some v)) (hr : Rep H d v s) : EvS (tVar i) σ H d s := fun H1 e Q q => ⟨v, h, q v H1 (Ex.refl _) (RepB.imp (fun a h _ => .inl h) (RepB.ex e hr.on))⟩
theorem es_nil : EvSA tNil σ H d [] := fun H1 _ _ q => q [] H1 (Ex.refl _) ⟨rfl, fun i y s' h => by simp at h⟩
theorem RepA.cons {v : V} {vs : List V} (h : RepB H B d v s) (hr : RepA H B d vs ss) : RepA H B d (v :: vs) (s :: ss) := ⟨by simp [hr.1], fun i y s' q1 q2 => by
  cases i with
  | zero =>
    cases (Option.some.inj q1)
    cases (Option.some.inj q2)
    exact h
  | succ i => exact hr.2 i y s' q1 q2⟩
theorem RepA.ex {vs : List V} (e : Ex H H') (h : RepA H B d vs ss) : RepA H' B d vs ss := ⟨h.1, fun i y s' q1 q2 => (h.2 i y s' q1 q2).ex e⟩
theorem RepA.imp {B' : Addr → Prop} {vs : List V} (e : ∀ a, B a → B' a) (h : RepA H B d vs ss) : RepA H B' d vs ss := ⟨h.1, fun i y s' q1 q2 => (h.2 i y s' q1 q2).imp fun a b _ => e a b⟩
theorem es_cons (h : EvS ta σ H d s) (hr : EvSA tr σ H d ss) : EvSA (tCons ta tr) σ H d (s :: ss) := fun H1 e Q q => h H1 e _ fun v H2 e2 r2 => hr H2 (Ex.trans e e2) _ fun vs H3 e3 r3 => q (v :: vs) H3 (Ex.trans e2 e3) (.cons (r2.ex e3) (r3.imp fun a b => b.back e2))
theorem es_lst (h : EvSA tr σ H d ss) (hl : ss.length ≤ 40000) : EvS (tLst tr) σ H (d + 1) (.l ss) := fun H1 e Q q => h H1 e _ fun vs H2 e2 r2 => ⟨sz_of (by rw [r2.1]; omega), fun p np => q (.ref p) _ (Ex.trans e2 (Ex.new np)) ⟨p, vs, rfl, .inr (fresh_back e2 np), upd_same, r2.1, by rw [r2.1]; exact hl, (r2.ex (Ex.new np)).2⟩⟩
theorem es_tup (h : EvSA tr σ H d ss) (hl : ss.length ≤ 40000) : EvS (tTup tr) σ H (d + 1) (.t ss) := fun H1 e Q q => h H1 e _ fun vs H2 e2 r2 => ⟨sz_of (by rw [r2.1]; omega), fun p np => q (.ref p) _ (Ex.trans e2 (Ex.new np)) ⟨p, vs, rfl, .inr (fresh_back e2 np), upd_same, r2.1, by rw [r2.1]; exact hl, (r2.ex (Ex.new np)).2⟩⟩
theorem es_ofL {xs : List V} (h : EvL te σ H xs) (hl : xs.length ≤ 40000) (hf : ∀ x ∈ xs, flt x) : EvS te σ H (d + 2) (.l (xs.map .v)) := fun H1 e Q q => h H1 e _ fun p H2 np e2 hp => q (.ref p) H2 e2 (rep_flat (.inr np) hp hl hf)
theorem es_ofU {xs : List V} (h : EvU te σ H xs) (hl : xs.length ≤ 40000) (hf : ∀ x ∈ xs, flt x) : EvS te σ H (d + 2) (.t (xs.map .v)) := fun H1 e Q q => h H1 e _ fun p H2 np e2 hp => q (.ref p) H2 e2 (rep_flatT (.inr np) hp hl hf)
/-- the same shape is the same -/
theorem ev_sameS (h1 : EvS ta σ H d s) (h2 : EvS tb σ H d s) : Ev (tCall (spSame d) [] E0 (tCons ta (tCons tb tNil))) σ H (.bl true) := fun H1 e Q q =>
  h1 H1 e _ fun v H2 e2 r2 => h2 H2 (Ex.trans e e2) _ fun u H3 e3 r3 => ⟨v, u, rfl, Rep.same (RepB.ex e3 r2.rep) r3.rep, fun H4 e4 => q H4 (Ex.trans e2 (Ex.trans e3 e4))⟩
/-- behind i turns of a comprehension -/
def CwS (H H1 : Hp) (d : Nat) (g : Nat → Sh) (D : Addr) (i : Nat) (H' : Hp) : Prop := H D = none ∧ H1 D = none ∧ Ex H1 H' ∧ ∃ vs, H' D = some (.lst vs) ∧ vs.length = i ∧ ∀ (k : Nat) y, vs[k]? = some y → RepB H' (fun a => Nb H H1 a ∧ a ≠ D) d y (g k)
theorem cws_turn {H H1 H' : Hp} {d : Nat} {g : Nat → Sh} {D : Addr} {i : Nat} {σ2 : L2.St} {te : TE} (e : Ex H H1) (p : CwS H H1 d g D i H') (hi : i < 50000) (he : EvS te σ2 H d (g i)) :
    tYes σ2 H' fun b H3 => if b = true then te σ2 H3 fun y H4 => ∃ acc, H4 D = some (.lst acc) ∧ acc.length < sizeLine ∧ CwS H H1 d g D (i + 1) (upd H4 D (.lst (acc ++ [y]))) else CwS H H1 d g D (i + 1) H3 := by
  obtain ⟨p0, p1, p2, vs, p3, p4, p5⟩ := p
  show te σ2 H' _
  refine he H' (Ex.trans e p2) _ fun v H4 e4 r4 => ?_
  have hD4 := e4 _ _ p3
  have up : ∀ {k : Nat} {y : V} {s : Sh}, RepB H4 (fun a => Nb H H1 a ∧ a ≠ D) d y s → RepB (upd H4 D (.lst (vs ++ [v]))) (fun a => Nb H H1 a ∧ a ≠ D) d y s := fun h => h.mono fun a o b q _ => ⟨b, by rw [upd_ne b.2]; exact q⟩
  refine ⟨vs, hD4, sz_lt (by omega), p0, p1, Ex.mut (Ex.trans p2 e4) p1, vs ++ [v], upd_same, by simp [p4], fun k y hy => ?_⟩
  rcases Nat.lt_or_ge k vs.length with hk | hk
  · rw [List.getElem?_append_left hk] at hy
    exact up (k := 0) ((p5 k y hy).ex e4)
  · rw [List.getElem?_append_right hk] at hy
    cases q : k - vs.length with
    | zero =>
      rw [q] at hy
      cases hy
      have : k = i := by omega
      rw [this]
      refine up (k := 0) (r4.imp fun a hb _ => ⟨hb.back p2, fun z => ?_⟩)
      subst z
      rcases hb with hb | hb
      · exact hb p0
      · rw [p3] at hb; cases hb
    | succ m => rw [q] at hy; simp at hy
theorem cws_end {H H1 H' : Hp} {d : Nat} {g : Nat → Sh} {D : Addr} {n : Nat} (p : CwS H H1 d g D n H') (hn : n ≤ 40000) : RepB H' (Nb H H1) (d + 1) (.ref D) (.l ((List.range n).map g)) := by
  obtain ⟨p0, p1, p2, vs, p3, p4, p5⟩ := p
  refine ⟨D, vs, rfl, .inr p1, p3, by simp [p4], by omega, fun i y s' q1 q2 => ?_⟩
  have hi : i < n := by rw [← p4]; exact (List.getElem?_eq_some_iff.mp q1).1
  rw [List.getElem?_map, List.getElem?_range hi] at q2
  cases (Option.some.inj q2)
  exact (p5 i y q1).imp fun a b _ => b.1
/-- [e for k in range(n)] -/
theorem es_lcR {ta : TA} {j n : Nat} {g : Nat → Sh} (h : EvA ta σ H [.int (n : Int)]) (hn : n ≤ 40000) (he : ∀ k < n, EvS te ((wipe σ [j]).set j (some (.int (k : Nat)))) H d (g k)) : EvS (tLc (iRng1 ta) (gName j) tYes te [j]) σ H (d + 1) (.l ((List.range n).map g)) := fun H0 e Q q => h H0 e _ fun H1 e1 => by
  have E1 := Ex.trans e e1
  refine ⟨(n : Int), rfl, by omega, by omega, fun Dl hD => ?_⟩
  refine lc_range (lo := 0) (n := ((n : Int)).toNat) (CwS H H1 d g Dl) ⟨fresh_back E1 hD, hD, Ex.new hD, [], upd_same, rfl, fun k y hy => by simp at hy⟩ (fun i H' hi p => ?_) (fun H' p => ?_)
  · have e0 : (0 : Int) + (i : Int) = (i : Int) := Int.zero_add _
    rw [e0]
    refine ⟨?_, cws_turn E1 p (by omega) (he i (by omega))⟩
    show ((σ.set j none).set j (some (.int (i : Int)))).set j none = σ.set j none
    simp
  · have p' : CwS H H1 d g Dl n H' := by simpa using p
    exact q (.ref Dl) H' (Ex.trans e1 p'.2.2.1) ((cws_end p' hn).imp fun a b _ => b.back e1)
/-- [e for x in l] -/
theorem es_lcL {tl : TE} {j : Nat} {a : Addr} {xs : List V} {g : Nat → Sh} (h : Ev tl σ H (.ref a)) (ha : H a = some (.lst xs)) (hn : xs.length ≤ 40000) (he : ∀ (k : Nat) x, xs[k]? = some x → EvS te ((wipe σ [j]).set j (some x)) H d (g k)) : EvS (tLc (iList K tl) (gName j) tYes te [j]) σ H (d + 1) (.l ((List.range xs.length).map g)) := fun H0 e Q q => h H0 e _ fun H1 e1 => by
  have E1 := Ex.trans e e1
  refine ⟨a, rfl, ⟨xs, sq_of (E1 _ _ ha)⟩, fun Dl hD => ?_⟩
  refine lc_list (xs := xs) (CwS H H1 d g Dl) ⟨fresh_back E1 hD, hD, Ex.new hD, [], upd_same, rfl, fun k y hy => by simp at hy⟩ (fun i H' _ p => sq_of (p.2.2.1 _ _ (E1 _ _ ha))) (fun i x H' hx p => ?_) (fun H' p => ?_)
  · refine ⟨?_, cws_turn E1 p (by have := (List.getElem?_eq_some_iff.mp hx).1; omega) (he i x hx)⟩
    show ((σ.set j none).set j (some x)).set j none = σ.set j none
    simp
  · exact q (.ref Dl) H' (Ex.trans e1 p.2.2.1) ((cws_end p hn).imp fun a b _ => b.back e1)
theorem s_asgS {D : Ends} {i : Nat} (h : EvS te σ H d s) (k : ∀ v H1, Ex H H1 → Rep H1 d v s → D.nx (σ.set i (some v)) H1) : tAsg te (gName i) D σ H := h H (Ex.refl H) _ fun v H1 e r => k v H1 e r.rep
theorem q_asgS {tz : TS} {D : Ends} {i : Nat} (h : EvS te σ H d s) (k : ∀ v H1, Ex H H1 → Rep H1 d v s → tz D (σ.set i (some v)) H1) : tSeq (tAsg te (gName i)) tz D σ H := s_asgS (D := { D with nx := tz D }) h k
end
end Lm

namespace Lm
open PySem L2 Evl RZ LamX
/-! ### what several calls, each tried, tell: a list that grows -/
/-- free in H, or a table -/
def Fr (H : Hp) (a : Addr) : Prop := ∀ o, H a = some o → ∃ ps, o = .tbl ps
theorem Fr.back {H H' : Hp} {a : Addr} (e : ExtN H H') (h : Fr H' a) : Fr H a := fun o ho => Classical.byContradiction fun hc => hc (h o (e _ _ ho fun ps z => hc ⟨ps, z⟩))
theorem Fr.of {H : Hp} {a : Addr} (h : H a = none) : Fr H a := fun o ho => by rw [h] at ho; cases ho
theorem Fr.ne {H : Hp} {a b : Addr} {xs : List V} (h : Fr H a) (hb : H b = some (.lst xs)) : a ≠ b := fun z => by
  subst z
  obtain ⟨ps, q⟩ := h _ hb
  cases q
/-- a tried call tells a thing of the shape s -/
def TrS (Tl : List (Addr × Str)) (te : TE) (σ : L2.St) (H : Hp) (d : Nat) (s : Sh) : Prop := ∀ H1, ExtN H H1 → Tabs Tl H1 → ∀ Q : VK, (∀ v H2, ExtN H1 H2 → Tabs Tl H2 → RepB H2 (Fr H1) d v s → Q v H2) → te σ H1 Q
theorem TrS.extn {Tl : List (Addr × Str)} {te : TE} {σ : L2.St} {H H' : Hp} {d : Nat} {s : Sh} (e : ExtN H H') (h : TrS Tl te σ H d s) : TrS Tl te σ H' d s := fun H1 e1 T1 Q q => h H1 (e.trans e1) T1 Q q
section
variable {Cl : VK → XK} {post : V → Hp → VK → Prop} {Tl : List (Addr × Str)} {C : Addr} {fn tag : Str} {x : V} {σ : L2.St} {H : Hp} {t : XK → TE} {d : Nat}
theorem tr_err (hC : ∀ Q cls d H, ClF C fn tag Q cls d H → Cl Q cls d H) (hx : flt x)
    (h : ∀ H1, ExtN H H1 → ∀ (E : XK) (R : VK), (∀ H' d, Ex H1 H' → H' d = none → E (.ref C) (some d) (upd H' d (.xd [(fn, x)]))) → t E σ H1 R) : TrS Tl (tLam Tl (TTtr Cl post) t) σ H (d + 2) (.t [.v (.str tag), .v x]) := fun H1 e1 T1 Q q =>
  go_trA (x := x) T1 hC (fun H2 e2 E R hE => h H2 (e1.trans e2) E R hE) fun p H2 e2 T2 np hp => q (.ref p) H2 e2 T2 (rep_flatT (xs := [.str tag, x]) np hp (by show 2 ≤ 40000; decide) fun y hy => by
    simp only [List.mem_cons, List.not_mem_nil, or_false] at hy
    rcases hy with rfl | rfl
    · exact .inr (.inr (.inl ⟨_, rfl⟩))
    · exact hx)
theorem tr_oth (hC : ∀ Q cls d H, ClO C tag Q cls d H → Cl Q cls d H) (h : ∀ H1, ExtN H H1 → ∀ (E : XK) (R : VK), (∀ H', Ex H1 H' → E (.ref C) none H') → t E σ H1 R) : TrS Tl (tLam Tl (TTtr Cl post) t) σ H (d + 2) (.t [.v (.str tag)]) := fun H1 e1 T1 Q q =>
  go_trO T1 hC (fun H2 e2 E R hE => h H2 (e1.trans e2) E R hE) fun p H2 e2 T2 np hp => q (.ref p) H2 e2 T2 (rep_flatT (xs := [.str tag]) np hp (by show 1 ≤ 40000; decide) fun y hy => by
    rw [List.mem_singleton.mp hy]
    exact .inr (.inr (.inl ⟨_, rfl⟩)))
theorem tr_told (hx : flt x) (h : ∀ H1, ExtN H H1 → Tabs Tl H1 → ∀ (E : XK) (R : VK), (∀ H', Ex H1 H' → R x H') → t E σ H1 R) : TrS Tl (tLam Tl (TTtr Cl (pTold tag)) t) σ H (d + 2) (.t [.v (.str tag), .v x]) := fun H1 e1 T1 Q q => by
  refine ⟨T1, fun H2 e2 T2 p0 np0 E R _ hR => ?_⟩
  have s0 : Ex H2 (upd H2 p0 (.tup [.str "odd"])) := Ex.new np0
  refine h _ ((e1.trans e2).trans (.of s0)) (T2.ext s0) E R fun H' s => hR _ _ fun p np => ?_
  have s1 : Ex H2 (upd H' p (.tup [.str tag, x])) := Ex.trans s0 (Ex.trans s (Ex.new np))
  refine q (.ref p) _ (e2.trans (.of s1)) (T2.ext s1) (rep_flatT (xs := [.str tag, x]) (Fr.back e2 (Fr.of (fresh_back (Ex.trans s0 s) np))) upd_same (by show 2 ≤ 40000; decide) fun y hy => ?_)
  simp only [List.mem_cons, List.not_mem_nil, or_false] at hy
  rcases hy with rfl | rfl
  · exact .inr (.inr (.inl ⟨_, rfl⟩))
  · exact hx
end
/-- the list at l of what was found -/
structure Fnd (Tl : List (Addr × Str)) (H0 : Hp) (l : Addr) (d : Nat) (ss : List Sh) (H : Hp) : Prop where
  ex : ExtN H0 H
  nl : Fr H0 l
  tb : Tabs Tl H
  ls : ∃ xs, H l = some (.lst xs) ∧ RepA H (fun a => a ≠ l) d xs ss
section
variable {K : PySem.W.Frag} {Tl : List (Addr × Str)} {te : TE} {tz : TS} {D : Ends} {σ : L2.St} {H0 H : Hp} {l : Addr} {d i : Nat} {s : Sh} {ss : List Sh}
theorem Fnd.rep (F : Fnd Tl H0 l d ss H) (hl : ss.length ≤ 40000) : Rep H (d + 1) (.ref l) (.l ss) := by
  obtain ⟨xs, h1, h2, h3⟩ := F.ls
  exact ⟨l, xs, rfl, trivial, h1, h2, by omega, fun i y s' q1 q2 => (h3 i y s' q1 q2).rep⟩
theorem Tabs_mutL {T : List (Addr × Str)} {H : Hp} {l : Addr} {xs : List V} {o : HO} (t : LamX.Tabs T H) (hl : H l = some (.lst xs)) : LamX.Tabs T (upd H l o) := fun p hp => by
  obtain ⟨ps, h1, h2, h3⟩ := t p hp
  refine ⟨ps, by rw [upd_ne (ne_of h1 hl (by intro z; cases z))]; exact h1, h2, fun pos cv hc => ?_⟩
  obtain ⟨c, e1, e2⟩ := h3 pos cv hc
  exact ⟨c, e1, by rw [upd_ne (ne_of e2 hl (by intro z; cases z))]; exact e2⟩
theorem ExtN_mutL {H H' : Hp} {l : Addr} {o : HO} (e : LamX.ExtN H H') (nl : Fr H l) : LamX.ExtN H (upd H' l o) := fun b u h n => by
  rw [upd_ne (fun z => by subst z; obtain ⟨ps, q⟩ := nl u h; exact n ps q)]
  exact e b u h n
theorem RepA_snoc {H : Hp} {B : Addr → Prop} {d : Nat} {vs : List V} {ss : List Sh} {v : V} {s : Sh} (h : RepA H B d vs ss) (hv : RepB H B d v s) : RepA H B d (vs ++ [v]) (ss ++ [s]) := ⟨by simp [h.1], fun i y s' q1 q2 => by
  rcases Nat.lt_or_ge i vs.length with hi | hi
  · rw [List.getElem?_append_left hi] at q1
    rw [List.getElem?_append_left (by rw [← h.1]; exact hi)] at q2
    exact h.2 i y s' q1 q2
  · rw [List.getElem?_append_right hi] at q1
    rw [List.getElem?_append_right (by rw [← h.1]; exact hi), ← h.1] at q2
    cases q : i - vs.length with
    | zero =>
      rw [q] at q1 q2
      cases q1
      cases q2
      exact hv
    | succ n => rw [q] at q1; simp at q1⟩
theorem go_fst (T : Tabs Tl H) (h : TrS Tl te σ H d s) (k : ∀ l H1, Fnd Tl H l d [s] H1 → tz D (σ.set i (some (.ref l))) H1) : tSeq (tAsg (tLst (tCons te tNil)) (gName i)) tz D σ H :=
  h H (ExtN.refl _) T _ fun v H1 e1 T1 r1 => ⟨by show 1 ≤ sizeLine; decide, fun l nl => k l _ ⟨e1.trans (.of (Ex.new nl)), Fr.back e1 (Fr.of nl), T1.ext (Ex.new nl), [v], upd_same, RepA.cons (r1.mono fun a o hb ho _ => ⟨ne_of_none ho nl, by rw [upd_ne (ne_of_none ho nl)]; exact ho⟩) ⟨rfl, fun i y s' z => by simp at z⟩⟩⟩
theorem go_nxt (F : Fnd Tl H0 l d ss H) (hi : σ[i]? = some (some (.ref l))) (hn : ss.length ≤ 900) (h : TrS Tl te σ H d s) (k : ∀ H1, Fnd Tl H0 l d (ss ++ [s]) H1 → tz D σ H1) : tSeq (tDrop (tBM K "list" rAppend (tVar i) (tCons te tNil))) tz D σ H := by
  obtain ⟨xs, h1, h2⟩ := F.ls
  refine ⟨_, hi, .inl ⟨rfl, _, SqL.of h1⟩, ?_⟩
  refine h H (ExtN.refl _) F.tb _ fun v H1 e1 T1 r1 => ?_
  have hl1 := e1 _ _ h1 (fun _ z => by cases z)
  refine ⟨l, _, _, rfl, rfl, hl1, sz_lt (by rw [h2.1]; omega), k _ ⟨ExtN_mutL (F.ex.trans e1) F.nl, F.nl, Tabs_mutL T1 hl1, _, upd_same, RepA_snoc ⟨h2.1, fun i y s' q1 q2 => (h2.2 i y s' q1 q2).mono fun a o hb ho hn => ⟨hb, by rw [upd_ne hb]; exact e1 _ _ ho hn⟩⟩ (r1.mono fun a o hb ho _ => ?_)⟩⟩
  have hal : a ≠ l := hb.ne h1
  exact ⟨hal, by rw [upd_ne hal]; exact ho⟩
end
/-! ### lists told one behind another -/
theorem RepA_app {H : Hp} {B : Addr → Prop} {d : Nat} {vs us : List V} {ss ts : List Sh} (h : RepA H B d vs ss) (h2 : RepA H B d us ts) : RepA H B d (vs ++ us) (ss ++ ts) := ⟨by simp [h.1, h2.1], fun i y s' q1 q2 => by
  rcases Nat.lt_or_ge i vs.length with hi | hi
  · rw [List.getElem?_append_left hi] at q1
    rw [List.getElem?_append_left (by rw [← h.1]; exact hi)] at q2
    exact h.2 i y s' q1 q2
  · rw [List.getElem?_append_right hi] at q1
    rw [List.getElem?_append_right (by rw [← h.1]; exact hi), ← h.1] at q2
    exact h2.2 _ y s' q1 q2⟩
theorem RepA_nil {H : Hp} {B : Addr → Prop} {d : Nat} : RepA H B d [] [] := ⟨rfl, fun i y s' z => by simp at z⟩
theorem RepA_rep {H : Hp} {B : Addr → Prop} {d : Nat} {vs : List V} {ss : List Sh} (h : RepA H B d vs ss) : ∀ n, RepA H B d (List.replicate n vs).flatten (List.replicate n ss).flatten
  | 0 => RepA_nil
  | n + 1 => by
    rw [List.replicate_succ, List.replicate_succ, List.flatten_cons, List.flatten_cons]
    exact RepA_app h (RepA_rep h n)
theorem flat_len {α : Type} (l : List α) : ∀ n, (List.replicate n l).flatten.length = n * l.length
  | 0 => by simp
  | n + 1 => by rw [List.replicate_succ, List.flatten_cons, List.length_append, flat_len l n, Nat.succ_mul, Nat.add_comm]
theorem rep_l {H : Hp} {B : Addr → Prop} {d : Nat} {v : V} {ss : List Sh} (h : RepB H B (d + 1) v (.l ss)) : ∃ a xs, v = .ref a ∧ B a ∧ H a = some (.lst xs) ∧ RepA H B d xs ss := by
  obtain ⟨a, xs, h1, h2, h3, h4, h5, h6⟩ := h
  exact ⟨a, xs, h1, h2, h3, h4, h6⟩
section
variable {σ : L2.St} {H : Hp} {ta tb : TE} {d n : Nat} {ss ts : List Sh}
theorem es_cat (h1 : EvS ta σ H (d + 1) (.l ss)) (h2 : EvS tb σ H (d + 1) (.l ts)) (hl : ss.length + ts.length ≤ 40000) : EvS (tOp rCat ta tb) σ H (d + 1) (.l (ss ++ ts)) := fun H1 e Q q => h1 H1 e _ fun v H2 e2 r2 => h2 H2 (Ex.trans e e2) _ fun u H3 e3 r3 => by
  obtain ⟨a, xs, rfl, ba, ha, ra⟩ := rep_l r2
  obtain ⟨b, ys, rfl, bb, hb, rb⟩ := rep_l r3
  refine ⟨a, b, xs, ys, rfl, rfl, e3 _ _ ha, hb, sz_of (by rw [ra.1, rb.1]; omega), fun p np => q (.ref p) _ (Ex.trans e2 (Ex.trans e3 (Ex.new np))) ?_⟩
  refine ⟨p, xs ++ ys, rfl, .inr (fresh_back (Ex.trans e2 e3) np), upd_same, by rw [List.length_append, List.length_append, ra.1, rb.1], by rw [List.length_append, ra.1, rb.1]; exact hl, (RepA_app ((ra.ex e3).ex (Ex.new np)) ((rb.imp fun a b => b.back e2).ex (Ex.new np))).2⟩
theorem es_rep (h1 : EvS ta σ H (d + 1) (.l ss)) (h2 : Ev tb σ H (.int (n : Int))) (hl : ss.length * n ≤ 40000) (hn : n ≤ 40000) : EvS (tOp rRep ta tb) σ H (d + 1) (.l (List.replicate n ss).flatten) := fun H1 e Q q => h1 H1 e _ fun v H2 e2 r2 => h2 H2 (Ex.trans e e2) _ fun H3 e3 => by
  obtain ⟨a, xs, rfl, ba, ha, ra⟩ := rep_l r2
  refine ⟨a, (n : Int), xs, rfl, rfl, e3 _ _ ha, by omega, by omega, sz_of (by rw [ra.1, Int.toNat_natCast]; omega), fun p np => q (.ref p) _ (Ex.trans e2 (Ex.trans e3 (Ex.new np))) ?_⟩
  have r := RepA_rep ((ra.ex e3).ex (Ex.new np (o := .lst (List.replicate ((n : Int)).toNat xs).flatten))) n
  refine ⟨p, (List.replicate ((n : Int)).toNat xs).flatten, rfl, .inr (fresh_back (Ex.trans e2 e3) np), upd_same, ?_, ?_, ?_⟩
  · rw [Int.toNat_natCast]; exact r.1
  · rw [Int.toNat_natCast, r.1, flat_len, Nat.mul_comm]; exact hl
  · rw [Int.toNat_natCast]
    rw [Int.toNat_natCast] at r
    exact r.2
end
theorem ev_intI {σ : L2.St} {H : Hp} {te : TE} {i : Int} (h : Ev te σ H (.int i)) : Ev (tCB (fun xs H Q => (∃ i, xs = [V.int i] ∧ Q (V.int i) H) ∨ ∃ k, xs = [V.bl k] ∧ Q (V.int (if k = true then 1 else 0)) H) (tCons te tNil)) σ H (.int i) := fun H1 e Q q => h H1 e _ fun H2 e2 => .inl ⟨i, rfl, q H2 e2⟩
end Lm

namespace Lm
open PySem L2
/-! ### the law's own defs -/
def kerL (N : Nat) (S : Nat → Bool) : List Nat := (List.range (N + 1)).map (ker S)
theorem kerL_len (N : Nat) (S : Nat → Bool) : (kerL N S).length = N + 1 := by unfold kerL; simp
theorem kerL_at {N c : Nat} (S : Nat → Bool) (h : c ≤ N) : (kerL N S)[c]? = some (ker S c) := by
  unfold kerL
  rw [List.getElem?_map, List.getElem?_range (by omega)]
  rfl
theorem not_fresh {H H' : Hp} {p : Addr} (e : Same H H') (h : H' p = none) : H p = none := e.free h
theorem StAt.neL {H : Hp} {st c : Addr} (S : StAt H st c) : ∃ xs, H st = some (.lst xs) := let ⟨⟨_, _, _, h⟩, _, _⟩ := S; ⟨_, h⟩
section
variable {P : Program} {w : World} {K : PySem.W.Frag} {mg : Str → Option Value} {base : Heap} {f : Addr} {fd : FuncData}
def spBase (CW : Addr) : Sp := fun vs H Q _ => ∃ (st c : Addr) (m : Nat), vs = [.ref st, .int m] ∧ StAt H st c ∧ 1 ≤ m ∧ m ≤ 60 ∧ ∀ (t r wk tw : Addr) (ws : List Str) (H' : Hp), WOk ws → ws.length = m → H t = none → H r = none → H' t = some (.tup [.ref r, .ref wk, .ref tw]) → H' r = some (.lst (ws.map V.str)) →
  WkAt CW H' wk "a" ws → WkAt CW H' tw "a" ws → StAt H' st c → Kp st H H' → Q (.ref t) H'
def spEdn (CW CE : Addr) : Sp := fun vs H Q _ => ∃ (wk r l : Addr) (nm : Str) (ws : List Str) (S : Nat → Bool), vs = [.ref wk, .ref r, .ref l] ∧ WkAt CW H wk nm ws ∧ WOk ws ∧ H r = some (.lst (ws.map V.str)) ∧ H l = some (.lst (nts (idx ws.length S))) ∧
  ∀ p H', H p = none → Same H H' → EdAt CW CE H' p wk nm ws S → Q (.ref p) H'
end
end Lm

namespace Lm
open PySem L2 Evl RZ
def isWV : V → Bool
  | .str s => isW s
  | _ => false
section
variable {K : PySem.W.Frag} {σ : L2.St} {H : Hp} {te : TE} {tt : TT}
theorem el_enumL {ta : TE} {a : Addr} {xs : List V} {i j : Nat} {vs : List Nat} (f : Nat → Bool) (v : Nat → V) (ha : Ev ta σ H (.ref a)) (hx : H a = some (.lst xs)) (hz : xs.length ≤ 40000) (hw : ∀ x y, wipe (((wipe σ vs).set i (some x)).set j (some y)) vs = wipe σ vs)
    (ht : ∀ (n : Nat) x H1, Ex H H1 → xs[n]? = some x → EvT tt (((wipe σ vs).set i (some (.int (n : Nat)))).set j (some x)) H1 (f n)) (he : ∀ (n : Nat) x H1, Ex H H1 → xs[n]? = some x → f n = true → Ev te (((wipe σ vs).set i (some (.int (n : Nat)))).set j (some x)) H1 (v n)) :
    EvL (tLc (iEnumA K (tCons ta tNil)) (gTup K 2 (gCons (gName i) (gCons (gName j) gNil))) tt te vs) σ H (given xs.length f v) := fun H0 e Q q => ha H0 e _ fun H1 e1 => by
  have E := Ex.trans e e1
  refine ⟨a, xs, rfl, .inl ⟨sq_of (E _ _ hx), fun D hD => lc_it walk_enum (Cw H1 f v D) ⟨hD, Ex.new hD, upd_same⟩ (fun n H' _ p => sq_of (Ex.trans E p.2.1 _ _ hx)) (fun n z Hn Hn' hn p y => ?_) (fun H' p => q D H' (fresh_back e1 p.1) (Ex.trans e1 p.2.1) p.2.2)⟩⟩
  obtain ⟨T', x1, x2, rfl, nT, rfl, hx1, hx2⟩ := y
  cases (Option.some.inj hx1)
  refine ⟨T', _, rfl, SqT.of upd_same, rfl, _, _, rfl, _, _, rfl, rfl, hw _ _, ?_⟩
  have p' : Cw H1 f v D n (upd Hn T' (.tup [.int (n : Nat), x2])) := ⟨p.1, Ex.trans p.2.1 (Ex.new nT), by rw [upd_ne (ne_of_none p.2.2 nT)]; exact p.2.2⟩
  exact cw_turn p' (by omega) (ht n x2 H1 E hx2) fun hf => he n x2 H1 E hx2 hf
end
theorem range_getD (ws : List Str) : (List.range ws.length).map (fun i => ws.getD i no) = ws := by
  have := pick_all ws
  unfold pick idx at this
  rw [List.filter_eq_self.mpr fun _ _ => rfl] at this
  exact this
theorem pick_filter (ws : List Str) (f : Str → Bool) : pick ws (fun i => f (ws.getD i no)) = ws.filter f := by
  have h := List.filter_map (f := fun i => ws.getD i no) (p := f) (l := List.range ws.length)
  rw [range_getD] at h
  rw [h]
  rfl
theorem filt_sub {α : Type} [DecidableEq α] : ∀ {vs ws : List α}, vs.Sublist ws → ws.Nodup → ws.filter (fun x => decide (x ∈ vs)) = vs
  | _, _, .slnil, _ => rfl
  | vs, _, .cons (l₂ := ws) a h, nd => by
    have hn := List.nodup_cons.mp nd
    rw [List.filter_cons_of_neg (by simpa using fun z => hn.1 (h.mem z))]
    exact filt_sub h hn.2
  | _, _, .cons₂ (l₁ := vs) (l₂ := ws) a h, nd => by
    have hn := List.nodup_cons.mp nd
    rw [List.filter_cons_of_pos (by simp)]
    have ih := filt_sub h hn.2
    congr 1
    refine Eq.trans (List.filter_congr fun x hx => ?_) ih
    have : x ≠ a := fun z => hn.1 (z ▸ hx)
    simp [this]
theorem pick_of {ws vs : List Str} (h : vs.Sublist ws) (nd : ws.Nodup) : pick ws (fun i => decide (ws.getD i no ∈ vs)) = vs := by
  rw [pick_filter ws fun x => decide (x ∈ vs), filt_sub h nd]
theorem ev_neE {K : PySem.W.Frag} {σ : L2.St} {H : Hp} {ta : TE} {p : Addr} {xs : List V} (h : Ev ta σ H (.ref p)) (hp : H p = some (.lst xs)) : Ev (tOp (rNeE K) ta (tLst tNil)) σ H (.bl (!decide (xs = []))) := fun H1 e Q q =>
  h H1 e _ fun H2 e2 => (el_lst ea_nil (by decide) : EvL (tLst tNil) σ H []) H2 (Ex.trans e e2) _ fun p' H3 _ e3 hp' => ⟨p, p', xs, rfl, rfl, sq_of (Ex.trans e (Ex.trans e2 e3) _ _ hp), sq_of hp', q H3 (Ex.trans e2 e3)⟩
section
variable {P : Program} {w : World} {K : PySem.W.Frag} {mg : Str → Option Value} {base : Heap} {f : Addr} {fd : FuncData}
def spMixV : Sp := fun vs H Q _ => ∃ (st c p : Addr) (l : List V), vs = [.ref st, .ref p] ∧ StAt H st c ∧ p ≠ st ∧ H p = some (.lst l) ∧ l.length ≤ 100 ∧ ∀ q l' H', H q = none → l'.Perm l → StAt H' st c → Kp st H H' → H' q = some (.lst l') → Q (.ref q) H'
abbrev s_mix : Stmt := top 22
theorem sc_mix : FnScope ["_law_state", "_law_things", "_law_left", "_law_found"] ["_law_state", "_law_things"] (defScope s_mix) := ⟨rfl, rfl, rfl, by decide +kernel, rfl, by decide +kernel, by decide +kernel⟩
theorem ok_mixV {fT : Addr} {fdT : FuncData} (F : L2.Fun K "_law_mix" "_law_mix" s_mix f fd) (T : Blt mg) (D_take : DefOk P w K mg base 2 "_law_take" fT fdT ["_law_state", "_law_many"] spTake) : FnOk P w K mg base CX0 3 f fd ["_law_state", "_law_things"] spMixV := by
  refine F.ok sc_mix (fun vs H Q E h => ?_) (fun cdv A outer s H vs Q E hr h => ?_)
  · obtain ⟨st, c, p, l, rfl, _⟩ := h
    rfl
  · obtain ⟨st, c, p, l0, rfl, S, hps, hR, hpl, k⟩ := h
    refine ⟨_, (pss_cons (ps_par (i := 2) (j := 3) (by rfl) sc_mix.nd rfl rfl (by decide) rfl rfl (pa_cons (pe_callTy call_list_of (by rfl) T.b_list (by decide +kernel) (pa_cons (pv 1) pa_nil)) (pa_cons (pe_lst pa_nil) pa_nil)) (by rfl))
        (pss_cons (ps_while PassesOwn.never (pt_cmpR (op_neE hr.units) (pv 2) (pe_lst pa_nil) (nomark _)) (pss_one (ps_expr (pe_bm PySem.F.plainAttrs_list PySem.F.slot_list_append PySem.F.type_list_append mt_append (pv 3) (pa_cons (pe_bm PySem.F.plainAttrs_list PySem.F.slot_list_pop PySem.F.type_list_pop mt_popAt (pv 2) (pa_cons (pe_d D_take (hr.mono (by decide)) (pa_cons (pv 0) (pa_cons (pe_callB call_len_seq (by rfl) T.b_len PySem.boot_len (pa_cons (pv 2) pa_nil)) pa_nil))) pa_nil)) pa_nil)))))
        (pss_one (ps_ret (pv 3))))), ?_⟩
    refine ⟨_, rfl, p, _, rfl, .inl (SqL.of hR), fun l nl => ⟨by show 0 ≤ sizeLine; decide, fun fo nfo => ⟨_, _, rfl, ?_⟩⟩⟩
    have e1 : Same H (upd H l (.lst l0)) := Same.upd' nl
    have hl1 : (upd H l (.lst l0)) l = some (.lst l0) := upd_same
    generalize upd H l (.lst l0) = H1 at e1 hl1 nfo
    have hlf : l ≠ fo := ne_of_none hl1 nfo
    have nfo' := Same.free e1 nfo
    obtain ⟨hls, hlc⟩ : l ≠ st ∧ l ≠ c := S.of_new nl
    obtain ⟨hfs, hfc⟩ : fo ≠ st ∧ fo ≠ c := S.of_new nfo'
    refine q_while (fun m σ' H' => ∃ F L : List V, m = L.length ∧ σ' = [some (.ref st), some (.ref p), some (.ref l), some (.ref fo)] ∧ (F ++ L).Perm l0 ∧ StAt H' st c ∧ Kp st H H' ∧ H' l = some (.lst L) ∧ H' fo = some (.lst F))
      l0.length ⟨[], l0, rfl, rfl, .refl _, (S.same e1).same (Same.upd' nfo), Kp.of (Same.trans e1 (Same.upd' nfo)), by rw [upd_ne hlf]; exact hl1, upd_same⟩ ?_
    rintro m σ' H' ⟨F, L, rfl, rfl, hp, S', e, gl, gf⟩
    have hlen : F.length + L.length = l0.length := by
      have := hp.length_eq
      rw [List.length_append] at this
      exact this
    have test : EvT (tTest (tOp (rNeE K) (tVar 2) (tLst tNil))) [some (.ref st), some (.ref p), some (.ref l), some (.ref fo)] H' (!decide (L = [])) := et_test (ev_neE (ev_var rfl) gl)
    refine ⟨_, test, fun hb H2 x2 => ⟨_, fun _ _ h => h, ?_⟩, fun hb H2 x2 => ?_⟩
    · have h0 : 0 < L.length := by
        cases L with
        | nil => simp at hb
        | cons _ _ => simp
      have gl2' := x2 _ _ gl
      have gf2' := x2 _ _ gf
      refine ⟨_, rfl, .inl ⟨rfl, _, SqL.of gf2'⟩, ?_⟩
      refine ⟨_, rfl, .inl ⟨rfl, _, SqL.of gl2'⟩, _, rfl, _, rfl, _, _, rfl, .inl (SqL.of gl2'), st, c, _, rfl, S'.same x2, by omega, by omega, fun d H3 d0 d1 S3 e3 => ?_⟩
      have gl3 := e3 _ _ hls gl2'
      have gf3 := e3 _ _ hfs gf2'
      have hd : d.toNat < L.length := by omega
      refine ⟨l, _, d, d.toNat, _, rfl, rfl, gl3, by omega, by omega, PySem.seqIndex_of d0 (by omega), List.getElem?_eq_getElem hd, ?_⟩
      refine ⟨_, _, _, rfl, rfl, by rw [upd_ne hlf.symm]; exact gf3, small1000 (by omega), ?_⟩
      refine ⟨(L.eraseIdx d.toNat).length, by rw [List.length_eraseIdx]; split <;> omega, F ++ [L[d.toNat]], L.eraseIdx d.toNat, rfl, rfl, ?_, (S3.mut hls hlc).mut hfs hfc, Kp.mut (Kp.mut (e.trans ((Kp.of x2).trans e3)) nl) nfo', ?_, ?_⟩
      · refine List.Perm.trans ?_ hp
        rw [List.append_assoc]
        exact (perm_erase L d.toNat hd).append_left F
      · rw [upd_ne hlf, upd_same]
      · rw [upd_same]
    · have h0 : L = [] := by
        cases L with
        | nil => rfl
        | cons _ _ => simp at hb
      subst h0
      rw [List.append_nil] at hp
      refine s_ret (ev_var rfl) fun H3 x3 => k fo F H3 nfo' hp ((S'.same x2).same x3) (e.trans ((Kp.of x2).trans (Kp.of x3))) (x3 _ _ (x2 _ _ gf))
end
/-! ### the cut behind an object of any kind -/
def idxW (ws : List Str) (s : Str) : Nat := match ws.findIdx? (· == s) with
  | some i => i + 1
  | none => 0
def cutOf (ws : List Str) : V → Nat
  | .str s => idxW ws s
  | _ => 0
theorem idxW_at {ws : List Str} {s : Str} (h : s ∈ ws) : ∃ i, ws[i]? = some s ∧ idxW ws s = i + 1 := by
  unfold idxW
  cases q : ws.findIdx? (· == s) with
  | none =>
    have := List.findIdx?_eq_none_iff.mp q s h
    simp at this
  | some i =>
    obtain ⟨h1, h2, _⟩ := List.findIdx?_eq_some_iff_getElem.mp q
    exact ⟨i, by rw [List.getElem?_eq_getElem h1]; exact congrArg some (by simpa using h2), rfl⟩
theorem idxW_no {ws : List Str} {s : Str} (h : s ∉ ws) : idxW ws s = 0 := by
  unfold idxW
  cases q : ws.findIdx? (· == s) with
  | none => rfl
  | some i =>
    obtain ⟨h1, h2, _⟩ := List.findIdx?_eq_some_iff_getElem.mp q
    have e : ws[i] = s := by simpa using h2
    exact absurd (e ▸ List.getElem_mem h1) h
theorem cutOf_le (ws : List Str) (v : V) : cutOf ws v ≤ ws.length := by
  cases v with
  | str s =>
    show idxW ws s ≤ _
    by_cases h : s ∈ ws
    · obtain ⟨i, h1, h2⟩ := idxW_at h
      have := (List.getElem?_eq_some_iff.mp h1).1
      omega
    · rw [idxW_no h]; omega
  | _ => exact Nat.zero_le _
/-- the cut ahead of the i-th thing -/
def prevC (ws : List Str) (xs : List V) : Nat → Nat
  | 0 => 0
  | i + 1 => match xs[i]? with
    | some y => cutOf ws y
    | none => 0
def badE (ws : List Str) (xs : List V) (i : Nat) : Bool := match xs[i]? with
  | some x => decide (cutOf ws x ≤ prevC ws xs i)
  | none => true
def cutsT (ws : List Str) (xs : List V) (i : Nat) : List Nat := 0 :: (xs.take i).map (cutOf ws)
theorem cutsT_last (ws : List Str) (xs : List V) : ∀ i, i ≤ xs.length → ∃ pre, nts (cutsT ws xs i) = pre ++ [.int (prevC ws xs i)]
  | 0, _ => ⟨[], rfl⟩
  | i + 1, h => by
    have hx : xs[i]? = some xs[i] := List.getElem?_eq_getElem (by omega)
    refine ⟨nts (cutsT ws xs i), ?_⟩
    have e : prevC ws xs (i + 1) = cutOf ws xs[i] := by
      show (match xs[i]? with
        | some y => cutOf ws y
        | none => 0) = _
      rw [hx]
    rw [e]
    unfold cutsT nts
    rw [List.take_succ, hx, Option.toList_some]
    simp only [List.map_append, List.map_cons, List.map_nil, List.cons_append]
theorem first_bad (b : Nat → Bool) : ∀ n : Nat, (∀ i, i < n → b i = false) ∨ ∃ k, k < n ∧ b k = true ∧ ∀ i, i < k → b i = false
  | 0 => .inl fun i h => absurd h (Nat.not_lt_zero _)
  | n + 1 => by
    rcases first_bad b n with h | ⟨k, h1, h2, h3⟩
    · cases hb : b n with
      | true => exact .inr ⟨n, Nat.lt_succ_self _, hb, h⟩
      | false => exact .inl fun i hi => (Nat.lt_succ_iff_lt_or_eq.mp hi).elim (h i) fun e => e ▸ hb
    · exact .inr ⟨k, Nat.lt_succ_of_lt h1, h2, h3⟩
/-- a text, or what is none -/
def AnyV (K : PySem.W.Frag) (H : Hp) (v : V) : Prop := (∃ s : Str, v = .str s) ∨ ((∃ t : String, (∀ H', Ex H H' → TyX K H' v (.type t)) ∧ kitB t "str" = some false) ∧ ∀ s : Str, v ≠ .str s)
theorem AnyV.ex {K : PySem.W.Frag} {H H' : Hp} {x : V} (e : Ex H H') (h : AnyV K H x) : AnyV K H' x := h.imp id fun ⟨⟨t, h1, h2⟩, h3⟩ => ⟨⟨t, fun H2 e2 => h1 H2 (Ex.trans e e2), h2⟩, h3⟩
theorem cutOf_non {ws : List Str} {v : V} (h : ∀ s : Str, v ≠ .str s) : cutOf ws v = 0 := by
  cases v with
  | str s => exact absurd rfl (h s)
  | _ => rfl
section
variable {P : Program} {w : World} {K : PySem.W.Frag} {mg : Str → Option Value} {base : Heap} {f : Addr} {fd : FuncData}
def spWkEndA (K : PySem.W.Frag) (C : Addr) : Sp := fun vs H Q _ => ∃ (a : Addr) (x : V) (nm : Str) (ws : List Str), vs = [.ref a, x] ∧ WkAt C H a nm ws ∧ ws.Nodup ∧ AnyV K H x ∧ Q (.int (cutOf ws x : Nat)) H
theorem ok_wk_endA {C fI : Addr} {fdI : FuncData} (F : L2.Fun K "end_of" "Work.end_of" s_Work_end_of f fd) (T : Blt mg) (W : WkTxt K C) (M_Work_contains : MetOk P w K mg base 1 C "__contains__" fI fdI ["self", "x"] (spWkInA K C)) : FnOk P w K mg base CX0 2 f fd ["self", "word"] (spWkEndA K C) := by
  refine F.ok sc_Work_end_of (fun vs H Q E h => ?_) (fun cdv A outer s H vs Q E hr h => ?_)
  · obtain ⟨a, x, nm, ws, rfl, _⟩ := h
    rfl
  · obtain ⟨a, x, nm, ws, rfl, kw, nd, hx, k⟩ := h
    obtain ⟨dx, t, d, h1, h2, h3⟩ := id kw.ob
    have hu := hu_of hr
    refine ⟨_, (pss_one (ps_ret (pe_ifExp (pt_cmpR (M_Work_contains.isin (hr.mono (by decide))) (pv 1) (pv 0) (by rfl)) (pe_dget hu (pe_fld (pv 0) rfl) (pv 1) (fun _ _ => rfl)) pe_int))), ?_⟩
    refine ⟨_, rfl, _, rfl, a, dx, _, rfl, h1, a, x, nm, ws, rfl, kw, nd, ?_⟩
    rcases hx with ⟨s, rfl⟩ | ⟨⟨t, ty, hk⟩, hn⟩
    · refine .inl ⟨s, rfl, _, rfl, ?_⟩
      by_cases hs : s ∈ ws
      · obtain ⟨i, hi, e⟩ := idxW_at hs
        rw [decide_eq_true hs]
        refine ⟨_, rfl, ?_⟩
        have hg : DGet H d (.str s) (some (.int (((0 : Nat) : Int) + (i : Int) + 1))) := by
          have := DGet.k (k := Sum.inr s) h3
          rw [endsL_at 0 ws i s nd hi] at this
          exact this
        have e0 : ((0 : Nat) : Int) + (i : Int) + 1 = ((i + 1 : Nat) : Int) := by omega
        rw [e0] at hg
        have k' : Q (.int (idxW ws s : Nat)) H := k
        rw [e] at k'
        exact ⟨_, rfl, a, C, dx, _, _, rfl, h1, W.cl, W.nE, wk_ends _ _ _, _, rfl, d, _, rfl, hg, k'⟩
      · rw [decide_eq_false hs]
        have k' : Q (.int (idxW ws s : Nat)) H := k
        rw [idxW_no hs] at k'
        exact ⟨_, rfl, k'⟩
    · rw [cutOf_non hn] at k
      exact .inr ⟨t, ty H (Ex.refl _), hk, _, rfl, _, rfl, k⟩
/-- cuts_behind(..) refused -/
def spCutsX (K : PySem.W.Frag) (C CP : Addr) : Sp := fun vs H Q E => (∃ (wk : Addr) (y : V), vs = [.ref wk, y] ∧ NoRow K H y ∧ Rs CP "index" (.int 0) H E) ∨
  (∃ (wk a : Addr) (nm : Str) (ws : List Str) (xs : List V) (n : Nat), vs = [.ref wk, .ref a] ∧ WkAt C H wk nm ws ∧ ws.Nodup ∧ SeqAt H a xs ∧ xs.length ≤ 60 ∧ (∀ x ∈ xs, AnyV K H x) ∧ n < xs.length ∧ badE ws xs n = true ∧ (∀ i, i < n → badE ws xs i = false) ∧ Rs CP "index" (.int n) H E)
theorem isr_call {te : TE} {v : V} {b : Bool} {σ : L2.St} {H : Hp} (h : Ev te σ H v) (hv : (b = true ∧ ∃ a xs, v = .ref a ∧ SeqAt H a xs) ∨ (b = false ∧ NoRow K H v)) : Ev (tCall (spIsRowA K) [] E0 (tCons te tNil)) σ H (.bl b) := fun H1 e1 Q q => h H1 e1 _ fun H2 e2 => ⟨v, rfl, by
  rcases hv with ⟨rfl, a, xs, rfl, hq⟩ | ⟨rfl, hn⟩
  · exact .inl ⟨a, xs, rfl, hq.same (Ex.trans e1 e2), fun H3 e3 => q H3 (Ex.trans e2 e3)⟩
  · exact .inr ⟨hn.ex (Ex.trans e1 e2), fun H3 e3 => q H3 (Ex.trans e2 e3)⟩⟩
theorem ok_cutsX {C CP fR fE fB : Addr} {fdR fdE fdB : FuncData} (F : L2.Fun K "cuts_behind" "cuts_behind" s_cuts_behind f fd) (T : Blt mg) (TP : ErrF K mg "BadPassage" CP fB "index") (IP : ErrI P w K mg base CP fB fdB "index") (D_is_row : DefOk P w K mg base 1 "is_row" fR fdR ["x"] (spIsRowA K))
    (M_Work_end_of : MetOk P w K mg base 2 C "end_of" fE fdE ["self", "word"] (spWkEndA K C)) : FnOk P w K mg base (L2.CX P w) 3 f fd ["work", "passages"] (spCutsX K C CP) := by
  refine F.okX sc_cuts_behind (fun vs H Q E h => ?_) (fun cdv A outer s H vs Q E hr h => ?_)
  · rcases h with ⟨wk, y, rfl, _⟩ | ⟨wk, a, nm, ws, xs, n, rfl, _⟩ <;> rfl
  · refine ⟨_, (pss_cons (ps_if (pt_not (pt_val (pe_d D_is_row (hr.mono (by decide)) (pa_cons (pv 1) pa_nil)))) (pss_one (by first | exact (ps_raise rfl (takes_of rfl rfl rfl rfl) (pmk_errF TP IP (hr.mono (by decide)) (pa_cons pe_int pa_nil))) | exact (ps_raise rfl (takes_of rfl rfl rfl rfl) (pmk_errF TP IP (hr.mono (by decide)) (pa_cons (pv 3) pa_nil))))) pss_nil)
        (pss_cons (ps_set (i := 2) sc_cuts_behind.nd rfl (by first | exact Or.inl rfl | exact Or.inr rfl) (pe_lst (pa_cons pe_int pa_nil)))
        (pss_cons (ps_for (passes_of rfl) rfl (pi_enumA rfl T.b_enumerate (pa_cons (pv 1) pa_nil)) (pg_tup rfl (pgs_cons (pg_name (i := 3) sc_cuts_behind.nd rfl (by first | exact Or.inl rfl | exact Or.inr rfl)) (pgs_cons (pg_name (i := 4) sc_cuts_behind.nd rfl (by first | exact Or.inl rfl | exact Or.inr rfl)) pgs_nil))) (pss_cons (ps_set (i := 5) sc_cuts_behind.nd rfl (by first | exact Or.inl rfl | exact Or.inr rfl) (pe_m M_Work_end_of (hr.mono (by decide)) (pv 0) (pa_cons (pv 4) pa_nil)))
        (pss_cons (ps_if (pt_cmpR op_le (pv 5) (pe_ix ix_list (pv 2) (pe_un un_neg pe_int) (fun _ _ => rfl)) (nomark _)) (pss_one (by first | exact (ps_raise rfl (takes_of rfl rfl rfl rfl) (pmk_errF TP IP (hr.mono (by decide)) (pa_cons pe_int pa_nil))) | exact (ps_raise rfl (takes_of rfl rfl rfl rfl) (pmk_errF TP IP (hr.mono (by decide)) (pa_cons (pv 3) pa_nil))))) pss_nil)
        (pss_one (ps_expr (pe_bm PySem.F.plainAttrs_list PySem.F.slot_list_append PySem.F.type_list_append mt_append (pv 2) (pa_cons (pv 5) pa_nil)))))))
        (pss_one (ps_ret (pv 2)))))), ?_⟩
    rcases h with ⟨wk, y, rfl, hn, k⟩ | ⟨wk, a, nm, ws, xs, n, rfl, kw, nd, hq, l1, hx, hln, hb, hlo, k⟩
    · exact q_when (b := true) (et_is (et_not (et_B (isr_call (ev_var rfl) (.inr ⟨rfl, hn⟩)))) rfl) (fun _ H1 e1 => go_mkO ev_c fun H2 d e2 nd => k H2 d (Same.trans e1 e2) nd) (fun z => nomatch z)
    · refine q_when (b := false) (et_is (et_not (et_B (isr_call (ev_var rfl) (.inl ⟨rfl, a, xs, rfl, hq⟩)))) rfl) (fun z => nomatch z) fun _ H1 e1 => ?_
      refine ⟨by show 1 ≤ sizeLine; decide, fun p np => ?_⟩
      have npH : H p = none := Same.free e1 np
      have e2 : Same H (upd H1 p (.lst [.int 0])) := Same.trans e1 (Same.upd' np)
      refine ⟨_, rfl, for_enumA (hq.same e2) (fun i σ' H' => i ≤ n ∧ ∃ u v x : Option V, σ' = [some (.ref wk), some (.ref a), some (.ref p), u, v, x] ∧ H' p = some (.lst (nts (cutsT ws xs i))) ∧ Same H H')
        ⟨Nat.zero_le _, none, none, none, rfl, upd_same, e2⟩ ?_ ?_ ?_⟩
      · rintro i σ' H' _ ⟨_, u, v, x, rfl, gp, e⟩ o ho
        rcases hq with hq | hq
        · rw [e2 _ _ hq] at ho
          rw [← ho]; exact e _ _ hq
        · rw [e2 _ _ hq] at ho
          rw [← ho]; exact e _ _ hq
      · rintro i y σ' H' H'' hi ⟨hin, u, v, x, rfl, gp, e⟩ ⟨T', x1, x2, rfl, nT, rfl, hx1, hx2⟩
        cases (Option.some.inj hx1)
        replace hx2 : xs[i]? = some x2 := hx2
        have hTp : T' ≠ p := (ne_of_none gp nT).symm
        have e3 : Same H (upd H' T' (.tup [.int (i : Nat), x2])) := Same.trans e (Same.upd' nT)
        have kw3 := kw.same e3
        obtain ⟨dx, t, d, o1, o2, o3⟩ := id kw3.ob
        refine ⟨T', _, rfl, SqT.of upd_same, rfl, _, _, rfl, _, _, rfl, rfl, ?_⟩
        refine ⟨_, rfl, wk, dx, _, rfl, o1, wk_no _ _ _ (by decide +kernel) (by decide +kernel) (by decide +kernel), _, rfl, wk, x2, nm, ws, rfl, kw3, nd, (hx x2 (List.mem_of_getElem? hx2)).ex e3, ?_⟩
        have gp2 : (upd H' T' (.tup [.int (i : Nat), x2])) p = some (.lst (nts (cutsT ws xs i))) := by rw [upd_ne hTp.symm]; exact gp
        obtain ⟨pre, hz⟩ := cutsT_last ws xs i (by omega)
        have hbi : badE ws xs i = decide ((cutOf ws x2 : Int) ≤ (prevC ws xs i : Int)) := by
          unfold badE
          rw [hx2]
          simp
        refine ⟨_, rfl, _, rfl, _, rfl, _, _, _, _, rfl, rfl, SqL.of gp2, by rw [hz]; exact atI_last _ _, _, _, rfl, rfl, _, rfl, ?_⟩
        rcases Nat.lt_or_ge i n with hlt | hge
        · rw [← hbi, hlo i hlt]
          refine ⟨_, rfl, .inl ⟨rfl, _, SqL.of gp2⟩, _, rfl, _, _, _, rfl, rfl, gp2, small1000 (by rw [nts_len]; unfold cutsT; simp; omega), ?_⟩
          refine ⟨hlt, _, _, _, rfl, ?_, Same.mut e3 npH⟩
          rw [upd_same]
          unfold cutsT
          rw [List.take_succ, hx2]
          simp [nts]
        · obtain rfl : i = n := by omega
          rw [← hbi, hb]
          exact go_mkO (ev_var rfl) fun H4 d4 e4 nd4 => k H4 d4 (Same.trans e3 e4) nd4
      · rintro σ' H' ⟨hin, _⟩
        omega
/-- Edition(..) refused -/
def spEdX (K : PySem.W.Frag) (CW CP : Addr) : Sp := fun vs H Q E => ∃ (p : Addr) (v y : V), vs = [.ref p, v, y] ∧ spCutsX K CW CP [v, y] H (fun _ _ => False) E
theorem ok_edX {CW CE CP fC fN fL : Addr} {fdC fdN fdL : FuncData} (F : L2.Fun K "__init__" "Edition.__init__" s_Edition_init f fd) (T : Blt mg) (D_cuts_behindX : DefOkX P w K mg base 3 "cuts_behind" fC fdC ["work", "passages"] (spCutsX K CW CP)) (D_counts_at : DefOk P w K mg base 1 "counts_at" fN fdN ["cuts", "length"] spCounts) (M_Work_len : MetOk P w K mg base 1 CW "__len__" fL fdL ["self"] (spWkLen CW)) :
    FnOk P w K mg base (L2.CX P w) 4 f fd ["self", "work", "passages"] (spEdX K CW CP) := by
  refine F.okX sc_Edition_init (fun vs H Q E h => ?_) (fun cdv A outer s H vs Q E hr h => ?_)
  · obtain ⟨p, v, y, rfl, _⟩ := h
    rfl
  · obtain ⟨p, v, y, rfl, k⟩ := h
    refine ⟨_, (pss_cons (ps_set (i := 3) sc_Edition_init.nd rfl (by first | exact Or.inl rfl | exact Or.inr rfl) (pe_dX D_cuts_behindX (hr.mono (by decide)) (passes_call (takes_of rfl rfl rfl rfl) (fun _ _ _ _ h => h)) (pa_cons (pv 1) (pa_cons (pv 2) pa_nil))))
        (pss_cons (ps_fld (pv 0) (pv 1) rfl)
        (pss_cons (ps_fld (pv 0) (pe_callTy call_tuple_of (by rfl) T.b_tuple (by decide +kernel) (pa_cons (pv 2) pa_nil)) rfl)
        (pss_cons (ps_fld (pv 0) (pe_callTy call_tuple_of (by rfl) T.b_tuple (by decide +kernel) (pa_cons (pv 3) pa_nil)) rfl)
        (pss_one (ps_fld (pv 0) (pe_callTy call_tuple_of (by rfl) T.b_tuple (by decide +kernel) (pa_cons (pe_d D_counts_at (hr.mono (by decide)) (pa_cons (pv 3) (pa_cons (pe_callB (M_Work_len.len (hr.mono (by decide))) (by rfl) T.b_len PySem.boot_len (pa_cons (pv 1) pa_nil)) pa_nil))) pa_nil)) rfl)))))), ?_⟩
    refine ⟨_, rfl, _, rfl, ?_⟩
    rcases k with ⟨wk, y', e, h1, h2⟩ | ⟨wk, a, nm, ws, xs, n, e, h⟩
    · exact .inl ⟨wk, y', e, h1, h2⟩
    · obtain ⟨h1, h2, h3, h4, h5, h6, h7, h8, h9⟩ := h
      exact .inr ⟨wk, a, nm, ws, xs, n, e, h1, h2, h3, h4, h5, h6, h7, h8, h9⟩
end
end Lm

namespace Lm
open PySem L2 Evl RZ
/-! ### odd things -/
/-- flat ones -/
def OdF (v : V) : Prop := (∃ s : Str, v = .str s ∧ s.cps.size ≤ 9 ∧ (s.cps.toList.all fun c => decide (c < 16 ^ 8)) = true) ∨ v = .non ∨ (∃ b, v = .bl b) ∨ ∃ i : Int, v = .int i ∧ i.natAbs < 2 ^ 64
def OdL (xs : List V) : Prop := xs.length ≤ 9 ∧ ∀ x ∈ xs, OdF x
/-- an object of any kind, of the objects B -/
def Od (B : Addr → Prop) (H : Hp) (v : V) : Prop := OdF v ∨ ∃ a, v = .ref a ∧ B a ∧ ((∃ xs, H a = some (.tup xs) ∧ OdL xs) ∨ (∃ xs, H a = some (.lst xs) ∧ OdL xs) ∨ H a = some (.dK [((.inr "a" : Key), .str "a")]))
theorem Od.mono {B B' : Addr → Prop} {H H' : Hp} {v : V} (e : ∀ a o, B a → H a = some o → (∀ ps, o ≠ .tbl ps) → B' a ∧ H' a = some o) (h : Od B H v) : Od B' H' v := by
  rcases h with h | ⟨a, rfl, hb, h⟩
  · exact .inl h
  · refine .inr ⟨a, rfl, ?_⟩
    rcases h with ⟨xs, h, hl⟩ | ⟨xs, h, hl⟩ | h
    · obtain ⟨q1, q2⟩ := e a _ hb h (fun _ z => by cases z)
      exact ⟨q1, .inl ⟨xs, q2, hl⟩⟩
    · obtain ⟨q1, q2⟩ := e a _ hb h (fun _ z => by cases z)
      exact ⟨q1, .inr (.inl ⟨xs, q2, hl⟩)⟩
    · obtain ⟨q1, q2⟩ := e a _ hb h (fun _ z => by cases z)
      exact ⟨q1, .inr (.inr q2)⟩
theorem Od.ex {B : Addr → Prop} {H H' : Hp} {v : V} (e : Ex H H') (h : Od B H v) : Od B H' v := h.mono fun a o b q _ => ⟨b, e _ _ q⟩
theorem Od.imp {B B' : Addr → Prop} {H : Hp} {v : V} (e : ∀ a, B a → H a ≠ none → B' a) (h : Od B H v) : Od B' H v := h.mono fun a o b q _ => ⟨e a b (by rw [q]; simp), q⟩
theorem Od.cases {B : Addr → Prop} {H : Hp} {v : V} (h : Od B H v) : OdF v ∨ ∃ a, v = .ref a := Or.imp id (fun ⟨a, e, _⟩ => ⟨a, e⟩) h
theorem OdF.flt {v : V} (h : OdF v) : flt v := by
  rcases h with ⟨s, rfl, _⟩ | rfl | ⟨b, rfl⟩ | ⟨i, rfl, _⟩
  · exact .inr (.inr (.inl ⟨_, rfl⟩))
  · exact .inr (.inr (.inr rfl))
  · exact .inr (.inl ⟨_, rfl⟩)
  · exact .inl ⟨_, rfl⟩
theorem OdF.fl {v : V} (h : OdF v) : flatV v = true := by
  rcases h with ⟨s, rfl, _⟩ | rfl | ⟨b, rfl⟩ | ⟨i, rfl, _⟩ <;> rfl
theorem Od.odd {B : Addr → Prop} {H : Hp} {v : V} (h : Od B H v) : OddV H v := by
  rcases h with h | ⟨a, rfl, _, h⟩
  · exact .inl h.fl
  · refine .inr ⟨a, rfl, ?_⟩
    rcases h with ⟨xs, h, hl⟩ | ⟨xs, h, hl⟩ | h
    · exact .inr (.inl ⟨_, h⟩)
    · exact .inl ⟨_, h⟩
    · exact .inr (.inr ⟨_, h⟩)
theorem Od.same {B : Addr → Prop} {H : Hp} {v : V} {d : Nat} (h : Od B H v) : SameV H (d + 2) v v := by
  rcases h with h | ⟨a, rfl, _, h⟩
  · exact h.flt.same
  · rcases h with ⟨xs, h, l, hl⟩ | ⟨xs, h, l, hl⟩ | h
    · exact .tup h h rfl (by omega) fun i u v q1 q2 => by
        rw [q1] at q2
        cases (Option.some.inj q2)
        exact (hl u (List.mem_of_getElem? q1)).flt.same
    · exact .lst h h rfl (by omega) fun i u v q1 q2 => by
        rw [q1] at q2
        cases (Option.some.inj q2)
        exact (hl u (List.mem_of_getElem? q1)).flt.same
    · exact .dct h (by simp)
theorem Od.wd {K : PySem.W.Frag} {B : Addr → Prop} {H : Hp} {v : V} (h : Od B H v) : WdV K H v (isWV v) := by
  rcases h with h | ⟨a, rfl, _, h⟩
  · rcases h with ⟨s, rfl, h, _⟩ | rfl | ⟨b, rfl⟩ | ⟨i, rfl, _⟩
    · exact .inl ⟨s, rfl, by omega, rfl⟩
    · exact .inr ⟨⟨_, fun _ _ => .base .non, kit_ty (by decide +kernel)⟩, rfl⟩
    · exact .inr ⟨⟨_, fun _ _ => .base (.bl b), kit_ty (by decide +kernel)⟩, rfl⟩
    · exact .inr ⟨⟨_, fun _ _ => .base (.int i), kit_ty (by decide +kernel)⟩, rfl⟩
  · refine .inr ⟨?_, rfl⟩
    rcases h with ⟨xs, h, hl⟩ | ⟨xs, h, hl⟩ | h
    · exact ⟨_, fun H' e => .base (.tup (e _ _ h)), kit_ty (by decide +kernel)⟩
    · exact ⟨_, fun H' e => .base (.lst (e _ _ h)), kit_ty (by decide +kernel)⟩
    · exact ⟨_, fun H' e => .base (.dK (e _ _ h)), kit_ty (by decide +kernel)⟩
/-- read as data, small enough to be shown -/
theorem OdF.dat {K : PySem.W.Frag} {H : Hp} {v : V} (h : OdF v) : ∃ d, Dp K H v d ∧ ShOk d 0 65 := by
  rcases h with ⟨s, rfl, h, h2⟩ | rfl | ⟨b, rfl⟩ | ⟨i, rfl, h⟩
  · exact ⟨.str s, .str s, (ShOk.str h2).mono (Nat.le_refl _) (by omega)⟩
  · exact ⟨.none, .non, ShOk.none.mono (Nat.le_refl _) (by omega)⟩
  · exact ⟨.bool b, .bl b, ShOk.bool.mono (Nat.le_refl _) (by omega)⟩
  · exact ⟨.int i, .int i, ShOk.int h⟩
theorem OdF.dats {K : PySem.W.Frag} {H : Hp} : ∀ {xs : List V}, (∀ x ∈ xs, OdF x) → ∃ ds, DpAll K H xs ds ∧ (∀ d ∈ ds, ShOk d 0 65) ∧ ds.length = xs.length
  | [], _ => ⟨[], .nil, (fun _ z => by cases z), rfl⟩
  | x :: xs, h => by
    obtain ⟨d, h1, h2⟩ := (h x List.mem_cons_self).dat (K := K) (H := H)
    obtain ⟨ds, g1, g2, g3⟩ := OdF.dats (K := K) (H := H) (xs := xs) fun y hy => h y (List.mem_cons_of_mem _ hy)
    exact ⟨d :: ds, .cons h1 g1, fun z hz => (List.mem_cons.mp hz).elim (fun e => e ▸ h2) (g2 z), by simp [g3]⟩
theorem Od.dat {K : PySem.W.Frag} {B : Addr → Prop} {H : Hp} {v : V} (h : Od B H v) : ∃ d, ItD K H v d ∧ ShOk d 1 600 := by
  rcases h with h | ⟨a, rfl, _, h⟩
  · obtain ⟨d, h1, h2⟩ := h.dat (K := K) (H := H)
    exact ⟨d, .inl h1, h2.mono (by omega) (by omega)⟩
  · rcases h with ⟨xs, h, l, hl⟩ | ⟨xs, h, l, hl⟩ | h
    · obtain ⟨ds, g1, g2, g3⟩ := OdF.dats (K := K) (H := H) hl
      refine ⟨_, .inl (Dp.seq false h g1), (ShOk.seq false g2).mono (by omega) ?_⟩
      rw [g3]; omega
    · obtain ⟨ds, g1, g2, g3⟩ := OdF.dats (K := K) (H := H) hl
      refine ⟨_, .inl (Dp.seq true h g1), (ShOk.seq true g2).mono (by omega) ?_⟩
      rw [g3]; omega
    · exact ⟨_, .inr ⟨a, _, _, rfl, h, .cons (d := .str "a") rfl .nil, rfl⟩, by constructor <;> decide +kernel⟩
def oddL1 (p1 p2 p3 p4 : Addr) : List V := [.str "", .str "A", .str "a1", .str "abcdefghi", .str "a b", .str "a_", .str "a\n", .str " a", .int 5, .int 0, .non, .bl true, .ref p1, .ref p2, .ref p3, .ref p4]
section
variable {P : Program} {w : World} {K : PySem.W.Frag} {mg : Str → Option Value} {base : Heap} {f : Addr} {fd : FuncData}
def spOdd : Sp := fun vs H Q _ => ∃ (st c : Addr), vs = [.ref st] ∧ StAt H st c ∧ ∀ v H', StAt H' st c → Kp st H H' → Od (fun a => H a = none) H' v → isWV v = false → Q v H'
abbrev s_odd : Stmt := top 27
theorem sc_odd : FnScope ["_law_state", "_law_some"] ["_law_state"] (defScope s_odd) := ⟨rfl, rfl, rfl, by decide +kernel, rfl, by decide +kernel, by decide +kernel⟩
theorem ok_odd {fO : Addr} {fdO : FuncData} (F : L2.Fun K "_law_odd" "_law_odd" s_odd f fd) (D_one : DefOk P w K mg base 3 "_law_one" fO fdO ["_law_state", "_law_things"] (spOneA K)) : FnOk P w K mg base CX0 4 f fd ["_law_state"] spOdd := by
  refine F.ok sc_odd (fun vs H Q E h => ?_) (fun cdv A outer s H vs Q E hr h => ?_)
  · obtain ⟨st, c, rfl, _⟩ := h
    rfl
  · obtain ⟨st, c, rfl, S, k⟩ := h
    refine ⟨_, (pss_cons (ps_set (i := 1) sc_odd.nd rfl (by first | exact Or.inl rfl | exact Or.inr rfl) (pe_lst (pa_cons pe_str (pa_cons pe_str (pa_cons pe_str (pa_cons pe_str (pa_cons pe_str (pa_cons pe_str (pa_cons pe_str (pa_cons pe_str (pa_cons pe_int (pa_cons pe_int (pa_cons pe_non (pa_cons pe_bl (pa_cons (pe_tup pa_nil) (pa_cons (pe_tup (pa_cons pe_str pa_nil)) (pa_cons (pe_lst (pa_cons pe_str pa_nil)) (pa_cons (pe_disp (pps_cons pe_str pe_str pps_nil) (by rfl) (by rfl) (fun z => by cases z) (by decide)) pa_nil))))))))))))))))))
        (pss_one (ps_ret (pe_d D_one (hr.mono (by decide)) (pa_cons (pv 0) (pa_cons (pe_op op_cat (pv 1) (pe_lst (pa_cons pe_str (pa_cons pe_str (pa_cons (pe_lst (pa_cons pe_str (pa_cons pe_int pa_nil))) pa_nil))))) pa_nil)))))), ?_⟩
    refine ⟨by show 0 ≤ sizeLine; decide, fun p1 n1 => ⟨by show 1 ≤ sizeLine; decide, fun p2 n2 => ⟨by show 1 ≤ sizeLine; decide, fun p3 n3 => ?_⟩⟩⟩
    intro p4 n4
    refine ⟨upd_same, [(.inr "a", .str "a")], rfl, by show 1 ≤ 15; decide, by show 16 ≤ sizeLine; decide, fun l nl => ?_⟩
    obtain ⟨q1, q2, q3, q4⟩ : H p1 = none ∧ H p2 = none ∧ H p3 = none ∧ H p4 = none := ⟨n1, fresh_back (Ex.new n1) n2, fresh_back (Ex.new n1) (fresh_back (Ex.new n2) n3), fresh_back (Ex.new n1) (fresh_back (Ex.new n2) (fresh_back (Ex.new n3) n4))⟩
    have e1 : Ex H (upd H p1 (.tup [])) := Ex.new n1
    have g1 : (upd H p1 (.tup [])) p1 = some (.tup []) := upd_same
    generalize upd H p1 (.tup []) = H1 at *
    have e2 : Ex H1 (upd H1 p2 (.tup [.str "a"])) := Ex.new n2
    have g2 : (upd H1 p2 (.tup [.str "a"])) p2 = some (.tup [.str "a"]) := upd_same
    generalize upd H1 p2 (.tup [.str "a"]) = H2 at *
    have e3 : Ex H2 (upd H2 p3 (.lst [.str "a"])) := Ex.new n3
    have g3 : (upd H2 p3 (.lst [.str "a"])) p3 = some (.lst [.str "a"]) := upd_same
    generalize upd H2 p3 (.lst [.str "a"]) = H3 at *
    have e4 : Ex H3 (upd (upd H3 p4 (.dK [])) p4 (.dK (mergeK [] [((.inr "a" : Key), .str "a")]))) := Ex.mut (Ex.new n4) n4
    have g4 : (upd (upd H3 p4 (.dK [])) p4 (.dK (mergeK [] [((.inr "a" : Key), .str "a")]))) p4 = some (.dK [((.inr "a" : Key), .str "a")]) := upd_same
    generalize upd (upd H3 p4 (.dK [])) p4 (.dK (mergeK [] [((.inr "a" : Key), .str "a")])) = H4 at *
    have e5 : Ex H4 (upd H4 l (.lst (oddL1 p1 p2 p3 p4))) := Ex.new nl
    have g5 : (upd H4 l (.lst (oddL1 p1 p2 p3 p4))) l = some (.lst (oddL1 p1 p2 p3 p4)) := upd_same
    refine ⟨_, rfl, _, rfl, ?_⟩
    show tLst _ _ (upd H4 l (.lst (oddL1 p1 p2 p3 p4))) _
    generalize upd H4 l (.lst (oddL1 p1 p2 p3 p4)) = H5 at *
    refine ⟨by show 2 ≤ sizeLine; decide, fun p5 n5 => ?_⟩
    have e6 : Ex H5 (upd H5 p5 (.lst [.str "b", .int 1])) := Ex.new n5
    have g6 : (upd H5 p5 (.lst [.str "b", .int 1])) p5 = some (.lst [.str "b", .int 1]) := upd_same
    refine ⟨by show 3 ≤ sizeLine; decide, ?_⟩
    generalize upd H5 p5 (.lst [.str "b", .int 1]) = H6 at *
    intro p6 n6
    have e7 : Ex H6 (upd H6 p6 (.lst [.str "-", .str "aB", .ref p5])) := Ex.new n6
    have g7 : (upd H6 p6 (.lst [.str "-", .str "aB", .ref p5])) p6 = some (.lst [.str "-", .str "aB", .ref p5]) := upd_same
    have E5 : Ex H H5 := Ex.trans e1 (Ex.trans e2 (Ex.trans e3 (Ex.trans e4 e5)))
    have q5 : H p5 = none := fresh_back E5 n5
    have E7 : Ex H (upd H6 p6 (.lst [.str "-", .str "aB", .ref p5])) := Ex.trans E5 (Ex.trans e6 e7)
    have S7 := S.same E7
    have w1 := e7 _ _ (e6 _ _ (e5 _ _ (e4 _ _ (e3 _ _ (e2 _ _ g1)))))
    have w2 := e7 _ _ (e6 _ _ (e5 _ _ (e4 _ _ (e3 _ _ g2))))
    have w3 := e7 _ _ (e6 _ _ (e5 _ _ (e4 _ _ g3)))
    have w4 := e7 _ _ (e6 _ _ (e5 _ _ g4))
    have w5 := e7 _ _ (e6 _ _ g5)
    have w6 := e7 _ _ g6
    refine ⟨l, p6, oddL1 p1 p2 p3 p4, _, rfl, rfl, w5, g7, by show 19 ≤ sizeLine; decide, ?_⟩
    generalize upd H6 p6 (.lst [.str "-", .str "aB", .ref p5]) = H7 at *
    intro p7 n7
    have e8 : Ex H7 (upd H7 p7 (.lst (oddL1 p1 p2 p3 p4 ++ [.str "-", .str "aB", .ref p5]))) := Ex.new n7
    refine ⟨st, c, p7, _, rfl, S7.same e8, (S7.of_new n7).1, .inl (SqL.of upd_same), by show 0 < 19; decide, by show 19 < _; decide, fun v H' hv S' e' => k v H' S' ((Kp.of (Ex.trans E7 e8)).trans e') ?_ ?_⟩
    rotate_left
    · simp only [oddL1, List.cons_append, List.nil_append, List.mem_cons, List.not_mem_nil, or_false] at hv
      rcases hv with rfl | rfl | rfl | rfl | rfl | rfl | rfl | rfl | rfl | rfl | rfl | rfl | rfl | rfl | rfl | rfl | rfl | rfl | rfl <;> first | rfl | decide +kernel
    have kp : ∀ {p : Addr} {o : HO}, H p = none → H7 p = some o → H' p = some o := fun {p o} n h => e' _ _ (by
      obtain ⟨ys, hs⟩ := S.neL
      exact (ne_of_none hs n).symm) (e8 _ _ h)
    have fl : ∀ s : Str, s.cps.size ≤ 9 → (s.cps.toList.all fun c => decide (c < 16 ^ 8)) = true → Od (fun a => H a = none) H' (.str s) := fun s h1 h2 => .inl (.inl ⟨s, rfl, h1, h2⟩)
    have fa : OdF (.str "a") := .inl ⟨_, rfl, by decide +kernel, by decide +kernel⟩
    have fb : OdF (.str "b") := .inl ⟨_, rfl, by decide +kernel, by decide +kernel⟩
    have fi : OdF (.int 1) := .inr (.inr (.inr ⟨1, rfl, by decide⟩))
    simp only [oddL1, List.cons_append, List.nil_append, List.mem_cons, List.not_mem_nil, or_false] at hv
    rcases hv with rfl | rfl | rfl | rfl | rfl | rfl | rfl | rfl | rfl | rfl | rfl | rfl | rfl | rfl | rfl | rfl | rfl | rfl | rfl
    · exact fl _ (by decide +kernel) (by decide +kernel)
    · exact fl _ (by decide +kernel) (by decide +kernel)
    · exact fl _ (by decide +kernel) (by decide +kernel)
    · exact fl _ (by decide +kernel) (by decide +kernel)
    · exact fl _ (by decide +kernel) (by decide +kernel)
    · exact fl _ (by decide +kernel) (by decide +kernel)
    · exact fl _ (by decide +kernel) (by decide +kernel)
    · exact fl _ (by decide +kernel) (by decide +kernel)
    · exact .inl (.inr (.inr (.inr ⟨_, rfl, by decide⟩)))
    · exact .inl (.inr (.inr (.inr ⟨_, rfl, by decide⟩)))
    · exact .inl (.inr (.inl rfl))
    · exact .inl (.inr (.inr (.inl ⟨_, rfl⟩)))
    · exact .inr ⟨p1, rfl, q1, .inl ⟨_, kp q1 w1, by decide, fun x hx => by cases hx⟩⟩
    · exact .inr ⟨p2, rfl, q2, .inl ⟨_, kp q2 w2, by show 1 ≤ 9; decide, fun x hx => by rw [List.mem_singleton.mp hx]; exact fa⟩⟩
    · exact .inr ⟨p3, rfl, q3, .inr (.inl ⟨_, kp q3 w3, by show 1 ≤ 9; decide, fun x hx => by rw [List.mem_singleton.mp hx]; exact fa⟩)⟩
    · exact .inr ⟨p4, rfl, q4, .inr (.inr (kp q4 w4))⟩
    · exact fl _ (by decide +kernel) (by decide +kernel)
    · exact fl _ (by decide +kernel) (by decide +kernel)
    · exact .inr ⟨p5, rfl, q5, .inr (.inl ⟨_, kp q5 w6, by show 2 ≤ 9; decide, fun x hx => by
        simp only [List.mem_cons, List.not_mem_nil, or_false] at hx
        rcases hx with rfl | rfl
        · exact fb
        · exact fi⟩)⟩
end
end Lm

namespace Lm
open PySem L2 Evl RZ LamX
/-! ### tried: the passages of the edition that is made, or the error's field -/
def pMadeE (CW CE : Addr) : V → Hp → VK → Prop := fun v H Q => ∃ (a wk : Addr) (nm : Str) (ws : List Str) (S : Nat → Bool), v = .ref a ∧ EdAt CW CE H a wk nm ws S ∧ ∀ r H2, H r = none → Same H H2 → H2 r = some (.lst ((pick ws S).map V.str)) → ∀ p, H2 p = none → Q (.ref p) (upd H2 p (.tup [.str "made", .ref r]))
abbrev s_tried : Stmt := top 29
theorem sc_tried : FnScope ["_law_ask", "_law_found", "e"] ["_law_ask"] (defScope s_tried) := ⟨rfl, rfl, rfl, by decide +kernel, rfl, by decide +kernel, by decide +kernel⟩
theorem tried_gives {X : Cx} {CA CB CW CE fA fB fL g : Addr} {cdg : Value} {fdL : FuncData} {q : Str} {k : Nat} (hk : 1 ≤ k) (TA : ErrF X.K X.mg "BadWord" CA fA "word") (TB : ErrF X.K X.mg "BadPassage" CB fB "index") (hBA : PySem.W.subIn X.K (.ref CB) (.ref CA) = some false)
    (M_Edition_passages : MetOk X.prog X.w X.K X.mg X.base 1 CE "passages" fL fdL ["self"] (spEdPs CW CE)) :
    GivesToS X ["_law_ask", "_law_found", "e"] "_law_tried" (defScope s_tried) g cdg (defBody s_tried) "_law_ask" q k (TTtr (Cl2 (ClF CA "word" "word") (ClF CB "index" "passage")) (pMadeE CW CE)) := by
  intro f c' s H Q tl hr act hc h
  refine ⟨_, pss_cons (ps_set (i := 1) sc_tried.nd rfl (by first | exact Or.inl rfl | exact Or.inr rfl) (pe_tup (pa_cons pe_str pa_nil))) (pss_cons (ps_clauses (X := (cxOf C8.CX0 X.prog X.w X.K X.mg X.base ["_law_ask", "_law_found", "e"] "_law_tried" (defScope s_tried) g cdg X.A X.stack s H C8.E0).nox)
      (cl := [(.ref CA, some 2, fun a cls d => tAsg (tTup (tCons (tC (.str "word")) (tCons (tXf a cls d CA "word" (tVar 2)) tNil))) (gName 1)), (.ref CB, some 2, fun a cls d => tAsg (tTup (tCons (tC (.str "passage")) (tCons (tXf a cls d CB "index" (tVar 2)) tNil))) (gName 1))])
      (tb := fun W => tAsg (tTup (tCons (tC (.str "made")) (tCons (tMeth CE "passages" (spEdPs CW CE) [] E0 (fun σ H Q => σ[0]? = some (some (.ref f)) ∧ H c' = some (LamX.CodeO c' q) ∧ tl (WE W σ) H Q) tNil) tNil))) (gName 1)) (Wo := fun _ _ _ _ => False)
      rfl rfl sc_tried.nd LamX.takes0 (fun W pn xe tk _ => pss_one (ps_set (i := 1) sc_tried.nd rfl (by first | exact Or.inl rfl | exact Or.inr rfl) (pe_tup (pa_cons pe_str (pa_cons (by
        exact (pe_m0 (X := (cxOf C8.CX0 X.prog X.w X.K X.mg X.base ["_law_ask", "_law_found", "e"] "_law_tried" (defScope s_tried) g cdg X.A X.stack s H C8.E0).nox.tr pn xe) M_Edition_passages (hr.mono (by omega)) (by exact (act W pn xe _ _ tk)))) pa_nil)))))
      (.cons ⟨rfl, by decide, .inl TA.g⟩ ⟨rfl, rfl⟩ (fun a oe cls d pn hz hf => pss_one (ps_set (i := 1) sc_tried.nd rfl (by first | exact Or.inl rfl | exact Or.inr rfl) (pe_tup (pa_cons pe_str (pa_cons (pe_xf TA.X TA.no hz hf (pv 2)) pa_nil)))))
      (.cons ⟨rfl, by decide, .inl TB.g⟩ ⟨rfl, rfl⟩ (fun a oe cls d pn hz hf => pss_one (ps_set (i := 1) sc_tried.nd rfl (by first | exact Or.inl rfl | exact Or.inr rfl) (pe_tup (pa_cons pe_str (pa_cons (pe_xf TB.X TB.no hz hf (pv 2)) pa_nil)))))
      .nil))) (pss_one (ps_ret (pv 1)))), ?_⟩
  refine ⟨by show 1 ≤ sizeLine; decide, fun p0 np0 => ⟨rfl, by rw [upd_ne (ne_of_none hc np0)]; exact hc, ?_⟩⟩
  refine h p0 np0 _ _ (fun cls d H' hcl => ?_) (fun v H' ⟨a, wk, nm, ws, S, ev, hw, hp⟩ => ?_)
  · rcases hcl with ⟨v, ⟨rfl, dd, fs, rfl, hd, hl⟩, hq⟩ | ⟨v, ⟨rfl, dd, fs, rfl, hd, hl⟩, hq⟩
    · exact ⟨true, TA.exm, fun _ a na => ⟨_, rfl, rfl, rfl, dd, fs, v, rfl, hd, hl, by show 2 ≤ sizeLine; decide, fun p np => ⟨_, rfl, hq p np⟩⟩, (fun z => nomatch z)⟩
    · exact ⟨false, exm_at TA.T.exC TA.ic TA.T.tyC hBA, (fun z => nomatch z), fun _ => ⟨true, TB.exm, fun _ a na => ⟨_, rfl, rfl, rfl, dd, fs, v, rfl, hd, hl, by show 2 ≤ sizeLine; decide, fun p np => ⟨_, rfl, hq p np⟩⟩, (fun z => nomatch z)⟩⟩
  · subst ev
    obtain ⟨dx, t, u, v, h1, h2, h3, h4⟩ := id hw.ob
    exact ⟨a, dx, _, rfl, h1, ed_no _ _ _ _ (by decide +kernel) (by decide +kernel) (by decide +kernel) (by decide +kernel), a, wk, nm, ws, S, rfl, hw, fun r H2 nr s hr2 => ⟨by show 2 ≤ sizeLine; decide, fun p np => ⟨_, rfl, hp r H2 nr s hr2 p np⟩⟩⟩
/-- _law_tried(lambda: e) -/
theorem pe_tried {X : Cx} {CA CB CW CE fA fB fL g c P : Addr} {fdg fdL : FuncData} {k : Nat} {t : XK → TE} {params : Arguments} {body : Expr} {scope : Scope} {p lpos pos : Pos} (Fg : L2.Fun X.K "_law_tried" "_law_tried" s_tried g fdg) (hb : L2.Binds X.K fdg ["_law_ask"] []) (hm : X.mg "_law_tried" = some (.ref g))
    (TA : ErrF X.K X.mg "BadWord" CA fA "word") (TB' : ErrF X.K X.mg "BadPassage" CB fB "index") (hBA : PySem.W.subIn X.K (.ref CB) (.ref CA) = some false) (M_Edition_passages : MetOk X.prog X.w X.K X.mg X.base 1 CE "passages" fL fdL ["self"] (spEdPs CW CE))
    (TB : LamX.TabB X.base X.mg c P) (hcode : X.env.code = .ref c) {Tl : List (Addr × Str)} (hmT : (P, X.env.qual ++ "<lambda>") ∈ Tl) (hu : ∀ p ∈ Tl, p.1 = P → p.2 = X.env.qual ++ "<lambda>") (hk : 1 ≤ k) (hr : Room (k + 2) X.A)
    (hbody : ∀ (A : Around) (outer : List Env) (s : Shared) (H : Hp) (E : XK) (f c' : Addr), Room k (A.deeper (LamX.lamEnv X scope s.heap.objs.size f c')) → PE (LamX.lamCx X A outer s H E scope f c') body (t E))
    (L : LamX.LamS X.env.scope scope) (hg : Gl X "_law_tried" := by rfl) (hdef : defaultsOf params X.env = ([], []) := by rfl)
    (hbind : ∀ (q : Str) (cl : List (Str × Addr)) (pm cv ctv : Value), bindArgs (PySem.W.kla_fn "<lambda>" q params body scope cl pm cv ctv) ⟨[], []⟩ = pure [] := by intros; rfl) :
    PE X (.Call (.Name "_law_tried" p) [.Lambda params body scope lpos] [] pos) (LamX.tLam Tl (TTtr (Cl2 (ClF CA "word" "word") (ClF CB "index" "passage")) (pMadeE CW CE)) t) := by
  obtain ⟨oc, od, kV, doc, pm, an, cdv, ct, osl, rfl, lk, hcd⟩ := Fg.ex
  exact pe_lamcallS (c := c) (P := P) hg hm Fg.kp lk hcd hb sc_tried rfl (.inl rfl) (tried_gives hk TA TB' hBA M_Edition_passages) TB hcode hmT hu hr L hdef hbind hbody
/-! ### what is due of things -/
def DueS (ws : List Str) (xs : List V) (s : Sh) : Prop := (∃ k, k < xs.length ∧ badE ws xs k = true ∧ (∀ i, i < k → badE ws xs i = false) ∧ s = .t [.v (.str "passage"), .v (.int (k : Nat))]) ∨ ((∀ i, i < xs.length → badE ws xs i = false) ∧ s = .t [.v (.str "made"), .l (xs.map .v)])
theorem due_ex (ws : List Str) (xs : List V) : ∃ s, DueS ws xs s := (first_bad (badE ws xs) xs.length).elim (fun h => ⟨_, .inr ⟨h, rfl⟩⟩) fun ⟨k, h1, h2, h3⟩ => ⟨_, .inl ⟨k, h1, h2, h3, rfl⟩⟩
theorem good_sub {ws : List Str} {xs : List V} : ∀ {N : Nat}, N ≤ xs.length → (∀ i, i < N → badE ws xs i = false) → ∃ vs : List Str, xs.take N = vs.map V.str ∧ vs.Sublist (ws.take (prevC ws xs N))
  | 0, _, _ => ⟨[], rfl, List.nil_sublist _⟩
  | N + 1, h, hb => by
    obtain ⟨vs, e, w⟩ := good_sub (ws := ws) (xs := xs) (N := N) (by omega) fun i hi => hb i (by omega)
    have hx : xs[N]? = some xs[N] := List.getElem?_eq_getElem (by omega)
    have hN := hb N (Nat.lt_succ_self _)
    unfold badE at hN
    rw [hx] at hN
    have hN : ¬ (cutOf ws xs[N] ≤ prevC ws xs N) := of_decide_eq_false hN
    have ep : prevC ws xs (N + 1) = cutOf ws xs[N] := by
      show (match xs[N]? with
        | some y => cutOf ws y
        | none => 0) = _
      rw [hx]
    cases hv : xs[N] with
    | str s =>
      rw [hv] at hN ep
      have hN : ¬ (idxW ws s ≤ prevC ws xs N) := hN
      have ep : prevC ws xs (N + 1) = idxW ws s := ep
      by_cases hs : s ∈ ws
      · obtain ⟨i, hi, ei⟩ := idxW_at hs
        refine ⟨vs ++ [s], by rw [List.take_succ, e, hx, hv]; simp, ?_⟩
        rw [ep, ei, List.take_succ, hi]
        refine List.Sublist.append (w.trans ?_) (List.Sublist.refl _)
        have : (ws.take i).take (prevC ws xs N) = ws.take (prevC ws xs N) := by rw [List.take_take, Nat.min_eq_left (by omega)]
        rw [← this]
        exact List.take_sublist _ _
      · rw [idxW_no hs] at hN
        omega
    | _ =>
      rw [hv] at hN
      exact absurd (Nat.zero_le _) hN
theorem good_pick {ws : List Str} {xs : List V} (nd : ws.Nodup) (h : ∀ i, i < xs.length → badE ws xs i = false) : ∃ S, xs = (pick ws S).map V.str := by
  obtain ⟨vs, e, w⟩ := good_sub (Nat.le_refl _) h
  rw [List.take_length] at e
  exact ⟨_, by rw [pick_of (w.trans (List.take_sublist _ _)) nd]; exact e⟩
/-- Edition(..), made or refused -/
def spEdE (K : PySem.W.Frag) (CW CE CP : Addr) : Sp := fun vs H Q E => spEdInit CW CE vs H Q E ∨ spEdX K CW CP vs H Q E
section
variable {Tl : List (Addr × Str)} {CA CB CW CE : Addr} {σ : L2.St} {H : Hp} {K : PySem.W.Frag} {tn : TE}
abbrev Cl03 (CA CB : Addr) := Cl2 (ClF CA "word" "word") (ClF CB "index" "passage")
theorem try_ed {wk : Addr} {nm : Str} {ws : List Str} {xs : List V} {i : Nat} {s : Sh} (hi : σ[i]? = some (some (.ref wk))) (hk : WkAt CW H wk nm ws) (hw : WOk ws) (hn : ∀ H1, ExtN H H1 → ∀ Q : VK, (∀ a H2, Ex H1 H2 → SeqAt H2 a xs → Q (.ref a) H2) → tn σ H1 Q) (ha : ∀ H1, ExtN H H1 → ∀ x ∈ xs, AnyV K H1 x) (l1 : xs.length ≤ 60) (hd : DueS ws xs s) :
    TrS Tl (tLam Tl (TTtr (Cl03 CA CB) (pMadeE CW CE)) fun E => tMake CE (spEdE K CW CE CB) [] E (tCons (tVar i) (tCons tn tNil))) σ H 3 s := by
  rcases hd with ⟨k, hlt, hb, hlo, rfl⟩ | ⟨hg, rfl⟩
  · refine tr_err (d := 1) (C := CB) (fn := "index") (tag := "passage") (x := .int (k : Nat)) (fun Q cls d H h => .inr h) (.inl ⟨_, rfl⟩) fun H1 e1 E R hE => ⟨_, hi, hn H1 e1 _ fun a H2 e2 hq x dx nx ndx nex => ?_⟩
    have xE : Ex H2 (upd (upd H2 dx (.own x)) x (.ins CE dx [])) := Ex.trans (Ex.new ndx) (Ex.new (by rw [upd_ne (Ne.symm nex)]; exact nx))
    have x12 := Ex.trans e2 xE
    exact .inr ⟨x, .ref wk, .ref a, rfl, .inr ⟨wk, a, nm, ws, xs, k, rfl, (hk.extn e1).same x12, hw.ok.nd, hq.same xE, l1, fun y hy => (ha H1 e1 y hy).ex x12, hlt, hb, hlo, fun H3 d s nd => hE H3 d (Ex.trans x12 s) nd⟩⟩
  · obtain ⟨S, eS⟩ := good_pick hw.ok.nd hg
    intro H1 e1 T1 Q q
    refine ⟨T1, fun H2 e2 T2 p0 np0 E R _ hR => ?_⟩
    have s0 : Ex H2 (upd H2 p0 (.tup [.str "odd"])) := Ex.new np0
    have e3 : ExtN H1 (upd H2 p0 (.tup [.str "odd"])) := e2.trans (.of s0)
    refine ⟨_, hi, hn _ (e1.trans e3) _ fun a H3 e4 hq => ?_⟩
    intro x dx nx ndx nex
    have hk3 := (hk.extn (e1.trans e3)).same e4
    refine .inl (mkEd (CE := CE) (E := E) (R := fun x H4 => R (.ref x) H4) hk3 hw (by rw [← eS]; exact hq) (fun x H4 nx e5 hx => ?_) x dx nx ndx nex)
    refine hR _ _ ⟨x, wk, nm, ws, S, rfl, hx, fun r H5 nr e6 hr p np => ?_⟩
    have e06 : Ex (upd H2 p0 (.tup [.str "odd"])) H5 := Ex.trans e4 (Ex.trans e5 e6)
    have e26 : Ex H2 H5 := Ex.trans s0 e06
    have e7 : Ex H5 (upd H5 p (.tup [.str "made", .ref r])) := Ex.new np
    have fr : Fr H1 r := Fr.back e2 (Fr.of (fresh_back (Ex.trans s0 (Ex.trans e4 e5)) nr))
    have fp : Fr H1 p := Fr.back e2 (Fr.of (fresh_back e26 np))
    refine q (.ref p) _ (e2.trans (.of (Ex.trans e26 e7))) (T2.ext (Ex.trans e26 e7)) ⟨p, [.str "made", .ref r], rfl, fp, upd_same, rfl, by show 2 ≤ 40000; decide, fun i y s' z1 z2 => ?_⟩
    match i, z1, z2 with
    | 0, z1, z2 => cases z1; cases z2; exact ⟨rfl, .inr (.inr (.inl ⟨_, rfl⟩))⟩
    | 1, z1, z2 =>
      cases z1; cases z2
      exact rep_flat (d := 0) fr (e7 _ _ (by rw [eS]; exact hr)) (by omega) fun y hy => by
        rw [eS] at hy
        obtain ⟨z, _, rfl⟩ := List.mem_map.mp hy
        exact .inr (.inr (.inl ⟨_, rfl⟩))
    | i + 2, z1, z2 => simp at z1
theorem try_bareE {wk : Addr} {v : V} {i j : Nat} {post : V → Hp → VK → Prop} (hi : σ[i]? = some (some (.ref wk))) (hj : σ[j]? = some (some v)) (hn : ∀ H1, ExtN H H1 → NoRow K H1 v) :
    TrS Tl (tLam Tl (TTtr (Cl03 CA CB) post) fun E => tMake CE (spEdE K CW CE CB) [] E (tCons (tVar i) (tCons (tVar j) tNil))) σ H 3 (.t [.v (.str "passage"), .v (.int 0)]) :=
  tr_err (d := 1) (C := CB) (fn := "index") (tag := "passage") (x := .int 0) (fun Q cls d H h => .inr h) (.inl ⟨_, rfl⟩) fun H1 e1 E R hE => ⟨_, hi, _, hj, fun x dx nx ndx nex => by
    have xE : Ex H1 (upd (upd H1 dx (.own x)) x (.ins CE dx [])) := Ex.trans (Ex.new ndx) (Ex.new (by rw [upd_ne (Ne.symm nex)]; exact nx))
    exact .inr ⟨x, .ref wk, v, rfl, .inl ⟨wk, v, rfl, (hn H1 e1).ex xE, fun H3 d s nd => hE H3 d (Ex.trans xE s) nd⟩⟩⟩
end
end Lm

namespace Lm
open PySem L2 Evl RZ
def spotF (ws : List Str) (x : V) (n : Nat) : Bool := match x with
  | .str s => decide (ws[n]? = some s)
  | _ => false
theorem spots_at {ws : List Str} (nd : ws.Nodup) {s : Str} {p : Nat} (h : ws[p]? = some s) : ∃ r, (List.range ws.length).filter (spotF ws (.str s)) = p :: r := by
  have hp : p < ws.length := (List.getElem?_eq_some_iff.mp h).1
  have mem : p ∈ (List.range ws.length).filter (spotF ws (.str s)) := List.mem_filter.mpr ⟨List.mem_range.mpr hp, decide_eq_true h⟩
  cases q : (List.range ws.length).filter (spotF ws (.str s)) with
  | nil => rw [q] at mem; cases mem
  | cons y r =>
    have hy : y ∈ (List.range ws.length).filter (spotF ws (.str s)) := by rw [q]; exact List.mem_cons_self
    have h2 : ws[y]? = some s := of_decide_eq_true (List.mem_filter.mp hy).2
    rw [nd_ix nd h2 h]
    exact ⟨r, rfl⟩
theorem spots_no {ws : List Str} {x : V} (h : ∀ s : Str, x = .str s → s ∉ ws) : (List.range ws.length).filter (spotF ws x) = [] := by
  refine List.filter_eq_nil_iff.mpr fun n _ hn => ?_
  cases x with
  | str s => exact h s rfl (List.mem_of_getElem? (of_decide_eq_true hn))
  | _ => cases hn
section
variable {P : Program} {w : World} {K : PySem.W.Frag} {mg : Str → Option Value} {base : Heap} {f : Addr} {fd : FuncData}
def spDue05 (K : PySem.W.Frag) : Sp := fun vs H Q _ => ∃ (r a : Addr) (ws : List Str) (xs : List V) (s : Sh), vs = [.ref r, .ref a] ∧ H r = some (.lst (ws.map V.str)) ∧ H a = some (.lst xs) ∧ ws.Nodup ∧ ws.length ≤ 60 ∧ xs.length ≤ 60 ∧ (∀ x ∈ xs, AnyV K H x) ∧ DueS ws xs s ∧ ∀ v H', Same H H' → RepB H' (fun p => H p = none) 3 v s → Q v H'
abbrev s_due : Stmt := top 30
theorem sc_due : FnScope ["_law_rows", "_law_things", "_law_ahead", "_law_k", "_law_x", "_law_spots", "_law_at", "_law_row"] ["_law_rows", "_law_things"] (defScope s_due) := ⟨rfl, rfl, rfl, by decide +kernel, rfl, by decide +kernel, by decide +kernel⟩
theorem ok_due05 (F : L2.Fun K "_law_due" "_law_due" s_due f fd) (T : Blt mg) : FnOk P w K mg base CX0 1 f fd ["_law_rows", "_law_things"] (spDue05 K) := by
  refine F.ok sc_due (fun vs H Q E h => ?_) (fun cdv A outer s H vs Q E hr h => ?_)
  · obtain ⟨r, a, ws, xs, s, rfl, _⟩ := h
    rfl
  · obtain ⟨r, a, ws, xs, sh, rfl, hr0, ha, nd, lw, l1, hx, hd, k⟩ := h
    refine ⟨_, (pss_cons (ps_set (i := 2) sc_due.nd rfl (by first | exact Or.inl rfl | exact Or.inr rfl) (pe_un un_neg pe_int))
        (pss_cons (ps_for PassesOwn.never rfl (pi_enumA rfl T.b_enumerate (pa_cons (pv 1) pa_nil)) (pg_tup rfl (pgs_cons (pg_name (i := 3) sc_due.nd rfl (by first | exact Or.inl rfl | exact Or.inr rfl)) (pgs_cons (pg_name (i := 4) sc_due.nd rfl (by first | exact Or.inl rfl | exact Or.inr rfl)) pgs_nil))) (pss_cons (ps_setLc (i := 5) (own := [("_law_at", 6), ("_law_row", 7)]) (g := gTup K 2 (gCons (gName 6) (gCons (gName 7) gNil))) (tt := (tAnd (tB (tCB (rIsi K) (tCons (tVar 4) (tCons (tC (.ty "str")) tNil)))) (tTest (tOp rEq (tVar 7) (tVar 4))))) (te := (tVar 6)) rfl sc_due.nd rfl rfl (sw_true rfl rfl rfl (by decide +kernel)) (pi_enumA rfl T.b_enumerate (pa_cons (pv 0) pa_nil)) (blkOk_by (own := [("_law_at", 6), ("_law_row", 7)]) (by kernel_rfl)) (fun _ _ _ _ _ => (pg_tup rfl (pgs_cons (pg_name (i := 6) sc_due.nd rfl (by first | exact Or.inl rfl | exact Or.inr rfl)) (pgs_cons (pg_name (i := 7) sc_due.nd rfl (by first | exact Or.inl rfl | exact Or.inr rfl)) pgs_nil)))) (fun _ _ _ _ _ => by exact (pts_one (PW.pt (pw_and (pt_val (pe_callB call_isi (by rfl) T.b_isinstance (by decide +kernel) (pa_cons (pv 4) (pa_cons (pe_bltn (v := .ty "str") (u := .type "str") (by rfl) T.b_str (by decide +kernel) rfl) pa_nil)))) (pw_and1 (pt_cmpR op_eq (pv 7) (pv 4) (nomark _))))))) (fun _ _ _ _ _ => by exact (pv 6)))
        (pss_cons (ps_if (PW.pt (pw_or (pt_cmpR (op_eqE hr.units) (pv 5) (pe_lst pa_nil) (nomark _)) (pw_or1 (pt_cmpR op_le (pe_ix ix_list (pv 5) pe_int (fun _ _ => rfl)) (pv 2) (nomark _))))) (pss_one (ps_ret (pe_tup (pa_cons pe_str (pa_cons (pv 3) pa_nil))))) pss_nil)
        (pss_one (ps_set (i := 2) sc_due.nd rfl (by first | exact Or.inl rfl | exact Or.inr rfl) (pe_ix ix_list (pv 5) pe_int (fun _ _ => rfl)))))))
        (pss_one (ps_ret (pe_tup (pa_cons pe_str (pa_cons (pe_callTy call_list_of (by rfl) T.b_list (by decide +kernel) (pa_cons (pv 1) pa_nil)) pa_nil))))))), ?_⟩
    obtain ⟨N, hN, hlo, kb, ke⟩ : ∃ N, N ≤ xs.length ∧ (∀ i, i < N → badE ws xs i = false) ∧ (N < xs.length → badE ws xs N = true ∧ sh = .t [.v (.str "passage"), .v (.int (N : Nat))]) ∧ (N = xs.length → sh = .t [.v (.str "made"), .l (xs.map .v)]) := by
      rcases hd with ⟨n, h1, h2, h3, h4⟩ | ⟨h1, h2⟩
      · exact ⟨n, Nat.le_of_lt h1, h3, fun _ => ⟨h2, h4⟩, fun e => by omega⟩
      · exact ⟨xs.length, Nat.le_refl _, h1, fun z => absurd z (Nat.lt_irrefl _), fun _ => h2⟩
    refine q_asg (v := .int (-1)) (ev_un ev_c ru_neg) fun H0 e0 => ?_
    have hr1 := e0 _ _ hr0
    have ha1 := e0 _ _ ha
    refine ⟨_, rfl, for_enumA (.inl ha1) (fun i σ' H' => i ≤ N ∧ ∃ u3 u4 u5 u6 u7 : Option V, σ' = [some (.ref r), some (.ref a), some (.int ((prevC ws xs i : Int) - 1)), u3, u4, u5, u6, u7] ∧ Same H0 H') ⟨Nat.zero_le _, none, none, none, none, none, rfl, Same.refl _⟩ (fun i σ' H' _ ⟨_, u3, u4, u5, u6, u7, _, e⟩ o ho => e _ _ ho) ?_ ?_⟩
    · rintro i y σ' H' H'' hi ⟨hin, u3, u4, u5, u6, u7, rfl, e⟩ ⟨T', x1, x2, rfl, nT, rfl, hx1, hx2⟩
      cases (Option.some.inj hx1)
      replace hx2 : xs[i]? = some x2 := hx2
      have e1 : Same H0 (upd H' T' (.tup [.int (i : Nat), x2])) := Same.trans e (Same.upd' nT)
      refine ⟨T', _, rfl, SqT.of upd_same, rfl, _, _, rfl, _, _, rfl, rfl, ?_⟩
      generalize upd H' T' (.tup [.int (i : Nat), x2]) = H2 at e1 ⊢
      have hany := (hx x2 (List.mem_of_getElem? hx2)).ex (Ex.trans e0 e1)
      have hr2 := e1 _ _ hr1
      dsimp only [gName, List.set]
      refine q_asgL (xs := ((List.range ws.length).filter (spotF ws x2)).map fun n : Nat => V.int n) ?_ fun sp H3 nsp e3 hsp => ?_
      · have h0 := el_enumL (K := K) (σ := [some (.ref r), some (.ref a), some (.int ((prevC ws xs i : Int) - 1)), some (.int (i : Int)), some x2, u5, u6, u7]) (H := H2) (ta := tVar 0) (te := tVar 6) (i := 6) (j := 7) (vs := [6, 7]) (tt := tAnd (tB (tCB (rIsi K) (tCons (tVar 4) (tCons (tC (.ty "str")) tNil)))) (tTest (tOp rEq (tVar 7) (tVar 4)))) (spotF ws x2) (fun n => .int (n : Nat)) (ev_var rfl) hr2 (by rw [List.length_map]; omega) (fun _ _ => rfl) (fun n x H4 e4 hxn => ?_) (fun n x H4 e4 hxn _ => ev_var rfl)
        · rw [List.length_map] at h0
          exact h0
        · rw [List.getElem?_map] at hxn
          obtain ⟨z, hz, rfl⟩ : ∃ z, ws[n]? = some z ∧ V.str z = x := by
            cases q : ws[n]? with
            | none => rw [q] at hxn; cases hxn
            | some z => rw [q] at hxn; exact ⟨z, rfl, Option.some.inj hxn⟩
          rcases hany with ⟨s, rfl⟩ | ⟨⟨t, ty, hk⟩, hn⟩
          · refine et_is (et_and (a := true) (b := decide (z = s)) (et_B (ev_isi (b := true) (ev_var rfl) (.ty _) (fun _ _ => .base (.str s)) (kit_ty (by decide +kernel)))) fun _ => et_is (et_test (ev_op (ev_var rfl) (ev_var rfl) (rv_eq rfl))) (by simp)) ?_
            show (true && decide (z = s)) = decide (ws[n]? = some s)
            rw [hz]
            simp
          · refine et_is (et_and (a := false) (b := false) (et_B (ev_isi (b := false) (ev_var rfl) (.ty _) (fun H' e' => ty H' (Ex.trans e4 e')) (kit_ty hk))) (fun z => nomatch z)) ?_
            unfold spotF
            cases x2 with
            | str s => exact absurd rfl (hn s)
            | _ => rfl
      have e03 : Same H0 H3 := Ex.trans e1 e3
      dsimp only [List.set]
      -- the test
      obtain ⟨test, hq⟩ : (EvT (tOr (tTest (tOp (rEqE K) (tVar 5) (tLst tNil))) (tTest (tOp (rI0 fun i j => .bl (decide (i ≤ j))) (tOp (rIxL K) (tVar 5) (tC (.int 0))) (tVar 2)))) [some (.ref r), some (.ref a), some (.int ((prevC ws xs i : Int) - 1)), some (.int (i : Int)), some x2, some (.ref sp), u6, u7] H3 (badE ws xs i)) ∧ (badE ws xs i = false → ∃ rr, ((List.range ws.length).filter (spotF ws x2)).map (fun n : Nat => V.int n) = .int ((cutOf ws x2 : Int) - 1) :: rr) := by
        have hb : badE ws xs i = decide (cutOf ws x2 ≤ prevC ws xs i) := by unfold badE; rw [hx2]
        by_cases hm : ∃ s, x2 = .str s ∧ s ∈ ws
        · obtain ⟨s, rfl, hs⟩ := hm
          obtain ⟨p, hp, ep⟩ := idxW_at hs
          obtain ⟨rr, hrr⟩ := spots_at nd hp
          have ec : cutOf ws (.str s) = p + 1 := ep
          rw [hrr] at hsp ⊢
          refine ⟨et_is (et_or (a := false) (et_is (et_test (ev_eqE (ev_var rfl) hsp)) (by simp)) (b := decide ((p : Int) ≤ (prevC ws xs i : Int) - 1)) fun _ => et_test (ev_op (ev_op (ev_var rfl) ev_c (rv_ixL (sq_of hsp) (atI_nat (j := 0) rfl))) (ev_var rfl) rv_I0)) ?_, fun _ => ⟨rr.map fun n : Nat => V.int n, by rw [ec, List.map_cons]; congr 2; omega⟩⟩
          rw [hb, ec, Bool.false_or, decide_eq_decide]
          omega
        · have hz : (List.range ws.length).filter (spotF ws x2) = [] := spots_no fun s e hs => hm ⟨s, e, hs⟩
          have ec : cutOf ws x2 = 0 := by
            rcases hany with ⟨s, rfl⟩ | ⟨_, hn⟩
            · exact idxW_no fun hs => hm ⟨s, rfl, hs⟩
            · exact cutOf_non hn
          rw [hz] at hsp ⊢
          have hbt : badE ws xs i = true := by rw [hb, ec]; simp
          exact ⟨et_is (et_or (a := true) (et_is (et_test (ev_eqE (ev_var rfl) hsp)) (by simp)) (b := true) fun z => nomatch z) (by rw [hbt]; rfl), fun z => by rw [hbt] at z; cases z⟩
      refine q_when test (fun hb H4 e4 => ?_) (fun hb H4 e4 => ?_)
      · have hNi : N = i := by
          rcases Nat.lt_or_ge i N with h | h
          · rw [hlo i h] at hb; cases hb
          · omega
        subst hNi
        refine s_retU (eu_tup (ea_cons ev_c (ea_cons (ev_var rfl) ea_nil)) (by show 2 ≤ 100000; decide)) fun p H5 np e5 hp => ?_
        have E5 : Ex H H4 := Ex.trans e0 (Ex.trans e03 e4)
        refine k (.ref p) H5 (Ex.trans E5 e5) ?_
        rw [(kb hi).2]
        exact rep_flatT (d := 1) (xs := [.str "passage", .int (N : Nat)]) (fresh_back E5 np) hp (by show 2 ≤ 40000; decide) fun y hy => by
          simp only [List.mem_cons, List.not_mem_nil, or_false] at hy
          rcases hy with rfl | rfl
          · exact .inr (.inr (.inl ⟨_, rfl⟩))
          · exact .inl ⟨_, rfl⟩
      · have hlt : i < N := by
          rcases Nat.lt_or_ge i N with h | h
          · exact h
          · have : i = N := by omega
            subst this
            rw [(kb hi).1] at hb
            cases hb
        obtain ⟨rr, hrr⟩ := hq hb
        have hsp4 := e4 _ _ hsp
        rw [hrr] at hsp4
        have ep : prevC ws xs (i + 1) = cutOf ws x2 := by
          show (match xs[i]? with
            | some y => cutOf ws y
            | none => 0) = _
          rw [hx2]
        exact s_asg (v := .int ((prevC ws xs (i + 1) : Int) - 1)) (by rw [ep]; exact ev_op (ev_var rfl) ev_c (rv_ixL (sq_of hsp4) (atI_nat (j := 0) rfl))) fun H5 e5 => ⟨hlt, _, _, _, _, _, rfl, Same.trans e03 (Same.trans e4 e5)⟩
    · rintro σ' H' ⟨hin, u3, u4, u5, u6, u7, rfl, e⟩
      have hN' : N = xs.length := by omega
      have ha2 := e _ _ ha1
      refine ⟨_, rfl, a, _, rfl, .inl (SqL.of ha2), fun l nl => ⟨by show 2 ≤ sizeLine; decide, fun p np => ?_⟩⟩
      have x1 := Ex.new nl (o := .lst xs)
      have hl : (upd H' l (.lst xs)) l = some (.lst xs) := upd_same
      generalize upd H' l (.lst xs) = H5 at *
      have x2 := Ex.new np (o := .tup [.str "made", .ref l])
      have E : Ex H H' := Ex.trans e0 e
      refine k (.ref p) _ (Ex.trans E (Ex.trans x1 x2)) ?_
      rw [ke hN']
      obtain ⟨vs, ev, _⟩ := good_sub (Nat.le_refl _) (hN' ▸ hlo)
      rw [List.take_length] at ev
      refine ⟨p, [.str "made", .ref l], rfl, fresh_back E (fresh_back x1 np), upd_same, rfl, by show 2 ≤ 40000; decide, fun i y s' z1 z2 => ?_⟩
      match i, z1, z2 with
      | 0, z1, z2 => cases z1; cases z2; exact ⟨rfl, .inr (.inr (.inl ⟨_, rfl⟩))⟩
      | 1, z1, z2 =>
        cases z1; cases z2
        exact rep_flat (d := 0) (fresh_back E nl) (x2 _ _ hl) (by omega) fun y hy => by
          rw [ev] at hy
          obtain ⟨z, _, rfl⟩ := List.mem_map.mp hy
          exact .inr (.inr (.inl ⟨_, rfl⟩))
      | i + 2, z1, z2 => simp at z1
end
end Lm

namespace Lm
open PySem L2 Evl RZ LamX
abbrev ql05 : Str := "law.<locals>.<lambda>"
structure ReprB (mg : Str → Option Value) : Prop where
  b_repr : mg "repr" = none
def spLawT (K : PySem.W.Frag) (T1 : Addr) : Sp := fun vs H Q _ => ∃ (a : Addr) (ns : List Int), vs = [.ref a] ∧ SqL K H a (ns.map V.int) ∧ ns.length ≤ 63 ∧ H T1 = some (.tbl #[]) ∧ ∀ H', Q (.bl true) H'
theorem map_getD {α : Type} (l : List Nat) (f : Nat → α) : (List.range l.length).map (fun i => f (l.getD i 0)) = l.map f := by
  refine List.ext_getElem? fun i => ?_
  rw [List.getElem?_map, List.getElem?_map]
  rcases Nat.lt_or_ge i l.length with h | h
  · rw [List.getElem?_range h, List.getElem?_eq_getElem h]
    simp [List.getD_eq_getElem?_getD, List.getElem?_eq_getElem h]
  · rw [List.getElem?_eq_none (by simpa using h), List.getElem?_eq_none h]
    rfl
theorem wipe1 (σ : L2.St) (j : Nat) (x : V) : wipe ((wipe σ [j]).set j (some x)) [j] = wipe σ [j] := by
  show ((σ.set j none).set j (some x)).set j none = σ.set j none
  simp
theorem sq_asgP {te : TE} {g : TG} {tz : TS} {D : Ends} {σ : L2.St} {H : Hp} (P : V → Hp → Prop) (h : ∀ Q : VK, (∀ v H', P v H' → Q v H') → te σ H Q) (k : ∀ v H', P v H' → g v σ H' (tz D)) : tSeq (tAsg te g) tz D σ H := h _ k
theorem odf_word {s : Str} (h : isW s = true) : OdF (.str s) := by
  unfold isW at h
  simp only [Bool.and_eq_true, decide_eq_true_eq, List.all_eq_true] at h
  refine .inl ⟨s, rfl, by omega, List.all_eq_true.mpr fun x hx => decide_eq_true ?_⟩
  have := (h.2 x hx).2
  show x < 4294967296
  omega
section
variable {K : PySem.W.Frag} {st c : Addr} {σ : L2.St} {H : Hp}
/-- lists at st and at D may change -/
def Kb (st D : Addr) (H H' : Hp) : Prop := ∀ b o, H b = some o → (∀ ps, o ≠ .tbl ps) → (b = st ∨ b = D → ∀ xs, o ≠ .lst xs) → H' b = some o
theorem Kb.of {D : Addr} {H H' : Hp} (e : KpN st H H') (S : StAt H st c) : Kb st D H H' := fun b o hb hn hk => e b o (fun z => by
  subst z
  obtain ⟨ys, h⟩ := S.neL
  rw [h] at hb
  exact hk (.inl rfl) _ (Option.some.inj hb).symm) hb hn
theorem Kb.mut {D : Addr} {H : Hp} {xs : List V} {o' : HO} (h : H D = some (.lst xs)) : Kb st D H (upd H D o') := fun b o hb _ hn => by
  rw [upd_ne]
  · exact hb
  · intro z
    subst z
    rw [h] at hb
    exact hn (.inr rfl) _ (Option.some.inj hb).symm
theorem Kb.refl {D : Addr} {H : Hp} : Kb st D H H := fun _ _ h _ _ => h
theorem Kb.trans {D : Addr} {H H1 H2 : Hp} (a : Kb st D H H1) (b : Kb st D H1 H2) : Kb st D H H2 := fun p o h n k => b p o (a p o h n k) n k
/-- neither of the two -/
abbrev Bo (st D : Addr) (a : Addr) : Prop := a ≠ st ∧ a ≠ D
theorem Kb.at {D a : Addr} {H H' : Hp} {o : HO} (e : Kb st D H H') (b : Bo st D a) (h : H a = some o) (n : ∀ ps, o ≠ .tbl ps) : H' a = some o := e a o h n fun z => z.elim (fun q => absurd q b.1) fun q => absurd q b.2
theorem Kb.od {D : Addr} {H H' : Hp} {v : V} (e : Kb st D H H') (h : Od (Bo st D) H v) : Od (Bo st D) H' v := h.mono fun a o b q n => ⟨b, e.at b q n⟩
theorem Kb.sq {D a : Addr} {H H' : Hp} {xs : List V} (e : Kb st D H H') (b : Bo st D a) (h : SeqAt H a xs) : SeqAt H' a xs := h.imp (fun h => e.at b h fun _ z => by cases z) fun h => e.at b h fun _ z => by cases z
/-- data that stays, whatever is drawn -/
theorem Od.dats (K : PySem.W.Frag) {D : Addr} {H : Hp} {v : V} (h : Od (Bo st D) H v) : ∃ d, (∀ H', Kb st D H H' → ItD K H' v d) ∧ ShOk d 1 600 := by
  rcases h with h | ⟨a, rfl, b, h⟩
  · obtain ⟨d, h1, h2⟩ := h.dat (K := K) (H := H)
    rcases h with ⟨s, rfl, h, h3⟩ | rfl | ⟨b, rfl⟩ | ⟨i, rfl, h⟩
    · exact ⟨.str s, fun _ _ => .inl (.str s), (ShOk.str h3).mono (by omega) (by omega)⟩
    · exact ⟨.none, fun _ _ => .inl .non, ShOk.none.mono (by omega) (by omega)⟩
    · exact ⟨.bool b, fun _ _ => .inl (.bl b), ShOk.bool.mono (by omega) (by omega)⟩
    · exact ⟨.int i, fun _ _ => .inl (.int i), (ShOk.int h).mono (by omega) (by omega)⟩
  · have da : ∀ {xs : List V}, (∀ x ∈ xs, OdF x) → ∃ ds, (∀ H', DpAll K H' xs ds) ∧ (∀ d ∈ ds, ShOk d 0 65) ∧ ds.length = xs.length := fun {xs} hx => by
      induction xs with
      | nil => exact ⟨[], fun _ => .nil, (fun _ z => by cases z), rfl⟩
      | cons x xs ih =>
        obtain ⟨ds, g1, g2, g3⟩ := ih fun y hy => hx y (List.mem_cons_of_mem _ hy)
        obtain ⟨d, h1, h2⟩ : ∃ d, (∀ H', Dp K H' x d) ∧ ShOk d 0 65 := by
          rcases hx x List.mem_cons_self with ⟨s, rfl, h, h2⟩ | rfl | ⟨b, rfl⟩ | ⟨i, rfl, h⟩
          · exact ⟨.str s, fun _ => .str s, (ShOk.str h2).mono (Nat.le_refl _) (by omega)⟩
          · exact ⟨.none, fun _ => .non, ShOk.none.mono (Nat.le_refl _) (by omega)⟩
          · exact ⟨.bool b, fun _ => .bl b, ShOk.bool.mono (Nat.le_refl _) (by omega)⟩
          · exact ⟨.int i, fun _ => .int i, ShOk.int h⟩
        exact ⟨d :: ds, fun H' => .cons (h1 H') (g1 H'), fun z hz => (List.mem_cons.mp hz).elim (fun e => e ▸ h2) (g2 z), by simp [g3]⟩
    rcases h with ⟨xs, h, l, hl⟩ | ⟨xs, h, l, hl⟩ | h
    · obtain ⟨ds, g1, g2, g3⟩ := da hl
      refine ⟨_, fun H' e => .inl (Dp.seq false (e.at b h fun _ z => by cases z) (g1 H')), (ShOk.seq false g2).mono (by omega) ?_⟩
      rw [g3]; omega
    · obtain ⟨ds, g1, g2, g3⟩ := da hl
      refine ⟨_, fun H' e => .inl (Dp.seq true (e.at b h fun _ z => by cases z) (g1 H')), (ShOk.seq true g2).mono (by omega) ?_⟩
      rw [g3]; omega
    · exact ⟨_, fun H' e => .inr ⟨a, _, _, rfl, e.at b h (fun _ z => by cases z), .cons (d := .str "a") rfl .nil, rfl⟩, by constructor <;> decide +kernel⟩
theorem Od.datsL (K : PySem.W.Frag) {D : Addr} {H : Hp} : ∀ {xs : List V}, (∀ x ∈ xs, Od (Bo st D) H x) → ∃ ds, (∀ H', Kb st D H H' → Paired (fun x d => ItD K H' x d) xs ds) ∧ (∀ d ∈ ds, ShOk d 1 600) ∧ ds.length = xs.length
  | [], _ => ⟨[], fun _ _ => .nil, (fun _ z => by cases z), rfl⟩
  | x :: xs, h => by
    obtain ⟨d, h1, h2⟩ := Od.dats K (h x List.mem_cons_self)
    obtain ⟨ds, g1, g2, g3⟩ := Od.datsL K (xs := xs) fun y hy => h y (List.mem_cons_of_mem _ hy)
    exact ⟨d :: ds, fun H' e => .cons (h1 H' e) (g1 H' e), fun z hz => (List.mem_cons.mp hz).elim (fun e => e ▸ h2) (g2 z), by simp [g3]⟩
def HdAt (b : Bool) (H : Hp) (h : Addr) (xs : List V) : Prop := if b = true then H h = some (.lst xs) else H h = some (.tup xs)
theorem HdAt.sq {b : Bool} {h : Addr} {xs : List V} (q : HdAt b H h xs) : SeqAt H h xs := by
  cases b with
  | true => exact .inl q
  | false => exact .inr q
theorem HdAt.of {h : Addr} {xs : List V} (q : SeqAt H h xs) : ∃ b, HdAt b H h xs := q.elim (fun q => ⟨true, q⟩) fun q => ⟨false, q⟩
theorem HdAt.kb {b : Bool} {D h : Addr} {xs : List V} {H' : Hp} (e : Kb st D H H') (n : Bo st D h) (q : HdAt b H h xs) : HdAt b H' h xs := by
  cases b with
  | true => exact e.at n q fun _ z => by cases z
  | false => exact e.at n q fun _ z => by cases z
theorem ev_reprO {b : Bool} {h : Addr} {xs : List V} {ds : List PyData} {te : TE} (ha : Ev te σ H (.ref h)) (q : HdAt b H h xs) (hp : ∀ H', Ex H H' → Paired (fun x d => ItD K H' x d) xs ds) (hd : ∀ d ∈ ds, ShOk d 1 600) (hl : ds.length ≤ 60) : Ev (tCB (rReprI K) (tCons te tNil)) σ H (.str (seqD' b ds).shown) := fun H1 e Q k => ha H1 e _ fun H2 e2 => by
  have s := ShOk.seq b hd
  have e3 := Ex.trans e e2
  refine ⟨h, b, xs, ds, rfl, ?_, hp H2 e3, s.s, by have := s.dep; unfold seqD'; omega, s.fit (by omega), k H2 e2⟩
  cases b with
  | true => exact e3 _ _ q
  | false => exact e3 _ _ q
theorem go_size05 {Q : VK} (S : StAt H st c) (h1 : σ[1]? = some (some (.ref st))) (k : ∀ (m : Nat) H', 1 ≤ m → m ≤ 12 → StAt H' st c → Kp st H H' → Q (.int m) H') :
    tCall (spOneA K) [] E0 (tCons (tVar 1) (tCons (tTup (tCons (tC (.int 1)) (tCons (tC (.int 2)) (tCons (tC (.int 3)) (tCons (tC (.int 5)) (tCons (tC (.int 8)) (tCons (tC (.int 12)) tNil))))))) tNil)) σ H Q := by
  refine ⟨_, h1, by show 6 ≤ sizeLine; decide, fun t nt => ⟨st, c, t, _, rfl, S.same (Same.upd' nt), (S.of_new nt).1, .inr (SqT.of upd_same), by show 0 < 6; decide, by show 6 < _; decide, fun v H2 hv S2 e2 => ?_⟩⟩
  have e := (Kp.of (Same.upd' nt)).trans e2
  simp only [List.mem_cons, List.not_mem_nil, or_false] at hv
  rcases hv with rfl | rfl | rfl | rfl | rfl | rfl
  · exact k 1 H2 (by decide) (by decide) S2 e
  · exact k 2 H2 (by decide) (by decide) S2 e
  · exact k 3 H2 (by decide) (by decide) S2 e
  · exact k 5 H2 (by decide) (by decide) S2 e
  · exact k 8 H2 (by decide) (by decide) S2 e
  · exact k 12 H2 (by decide) (by decide) S2 e
theorem some_ok {st c r : Addr} {ws : List Str} (s1 : σ[1]? = some (some (.ref st))) (s3 : σ[3]? = some (some (.ref r))) (sl : 7 < σ.length) (S0 : StAt H st c) (hrs : r ≠ st) (hr : H r = some (.lst (ws.map V.str))) (hw : WOk ws) (Q : VK)
    (k : ∀ p H' S, H p = none → StAt H' st c → Kp st H H' → H' p = some (.lst ((pick ws S).map V.str)) → Q (.ref p) H') :
    (tLc (iList K (tCall spKept [] E0 (tCons (tVar 1) (tCons (tCB (Evl.rLenS K) (tCons (tVar 3) tNil)) tNil)))) (gName 7) tYes (tOp (rIxL K) (tVar 3) (tVar 7)) [7]) σ H Q := by
  have s3' : ∀ x, ((wipe σ [7]).set 7 (some x))[3]? = some (some (.ref r)) := fun x => by
    show ((σ.set 7 none).set 7 (some x))[3]? = _
    rw [List.set_set, List.getElem?_set_ne (by decide)]; exact s3
  have s7 : ∀ x, ((wipe σ [7]).set 7 (some x))[7]? = some (some x) := fun x => by
    show ((σ.set 7 none).set 7 (some x))[7]? = _
    rw [List.set_set, List.getElem?_set_self sl]
  refine ⟨_, s1, _, s3, r, _, rfl, .inl (SqL.of hr), st, c, ws.length, by rw [List.length_map]; rfl, S0, hw.l1, fun kl S H1 nk S1 e1 hk => ?_⟩
  have hr1 := e1 _ _ hrs hr
  show tLc (iList K (tC (.ref kl))) (gName 7) tYes (tOp (rIxL K) (tVar 3) (tVar 7)) [7] σ H1 Q
  have hk : H1 kl = some (.lst ((idx ws.length S).map fun i : Nat => V.int i)) := hk
  have lc := el_lcL (K := K) (σ := σ) (H := H1) (t := tYes) (te := tOp (rIxL K) (tVar 3) (tVar 7)) (vs := [7]) (j := 7) (fun _ => true) (fun i => V.str (ws.getD ((idx ws.length S).getD i 0) no)) ev_c (sq_of hk)
    (by rw [List.length_map]; have := idx_len ws.length S; have := hw.l1; omega) (fun v => wipe1 _ 7 v) (fun _ _ _ _ _ => fun H3 _ _ q => q H3 (Ex.refl H3)) (fun i x H2 e2 hx _ => by
      rw [List.getElem?_map] at hx
      cases q : (idx ws.length S)[i]? with
      | none => rw [q] at hx; cases hx
      | some j =>
        rw [q] at hx
        cases (Option.some.inj hx)
        have hj := (idx_mem.mp (List.mem_of_getElem? q)).1
        have e : (idx ws.length S).getD i 0 = j := by rw [List.getD_eq_getElem?_getD, q]; rfl
        rw [e]
        exact ev_op (ev_var (s3' _)) (ev_var (s7 _)) (rv_ixL (sq_of (e2 _ _ hr1)) (at_of rfl (by rw [List.getElem?_map, nth_at hj]; rfl))))
  refine lc H1 (Ex.refl _) _ fun p H2 np e2 hp => k p H2 S (e1.free (S1.of_new np).1 np) (S1.same e2) (e1.trans (Kp.of e2)) ?_
  rw [hp]
  unfold given pick
  rw [List.filter_eq_self.mpr fun _ _ => rfl, List.length_map, map_getD (idx ws.length S) fun j => V.str (ws.getD j no), List.map_map]
  rfl
/-- what is no row -/
def BrN (B : Addr → Prop) (H : Hp) (v : V) : Prop := flt v ∨ ∃ a, v = .ref a ∧ B a ∧ ∃ ks, H a = some (.dK ks)
theorem BrN.mono {B B' : Addr → Prop} {H H' : Hp} {v : V} (e : ∀ a o, B a → H a = some o → (∀ ps, o ≠ .tbl ps) → B' a ∧ H' a = some o) (h : BrN B H v) : BrN B' H' v := by
  rcases h with h | ⟨a, rfl, hb, ks, h⟩
  · exact .inl h
  · obtain ⟨q1, q2⟩ := e a _ hb h (fun _ z => by cases z)
    exact .inr ⟨a, rfl, q1, ks, q2⟩
theorem BrN.no {B : Addr → Prop} {v : V} (h : BrN B H v) : NoRow K H v := by
  rcases h with h | ⟨a, rfl, hb, ks, h⟩
  · rcases h with ⟨i, rfl⟩ | ⟨b, rfl⟩ | ⟨s, rfl⟩ | rfl
    · exact ⟨_, fun _ _ => .base (.int _), kAny2 (by decide +kernel) (by decide +kernel)⟩
    · exact ⟨_, fun _ _ => .base (.bl _), kAny2 (by decide +kernel) (by decide +kernel)⟩
    · exact ⟨_, fun _ _ => .base (.str _), kAny2 (by decide +kernel) (by decide +kernel)⟩
    · exact ⟨_, fun _ _ => .base .non, kAny2 (by decide +kernel) (by decide +kernel)⟩
  · exact ⟨_, fun H' e => .base (.dK (e _ _ h)), kAny2 (by decide +kernel) (by decide +kernel)⟩
theorem go_bare5 {Q : VK} (S : StAt H st c) (h1 : σ[1]? = some (some (.ref st))) (k : ∀ (v : V) H', StAt H' st c → Kp st H H' → BrN (fun a => H a = none) H' v → Q v H') :
    tCall (spOneA K) [] E0 (tCons (tVar 1) (tCons (tTup (tCons (tC .non) (tCons (tC (.int 5)) (tCons (tC (.str "ab")) (tCons tDNewK (tCons (tC (.bl true)) (tCons (tDisp [(tC (.str "a"), tC (.int 1))]) (tCons (tC (.str "a")) tNil)))))))) tNil)) σ H Q := by
  refine ⟨_, h1, ?_⟩
  intro p3 n3 p4 n4
  refine ⟨upd_same, [(.inr "a", .int 1)], rfl, by show 1 ≤ 15; decide, by show 7 ≤ sizeLine; decide, fun l nl => ?_⟩
  obtain ⟨q3, q4⟩ : H p3 = none ∧ H p4 = none := ⟨n3, fresh_back (Ex.new n3) n4⟩
  have e3 : Ex H (upd H p3 (.dK [])) := Ex.new n3
  have g3 : (upd H p3 (.dK [])) p3 = some (.dK []) := upd_same
  generalize upd H p3 (.dK []) = H3 at *
  have e4 : Ex H3 (upd (upd H3 p4 (.dK [])) p4 (.dK (mergeK [] [((.inr "a" : Key), .int 1)]))) := Ex.mut (Ex.new n4) n4
  have g4 : (upd (upd H3 p4 (.dK [])) p4 (.dK (mergeK [] [((.inr "a" : Key), .int 1)]))) p4 = some (.dK (mergeK [] [((.inr "a" : Key), .int 1)])) := upd_same
  generalize upd (upd H3 p4 (.dK [])) p4 (.dK (mergeK [] [((.inr "a" : Key), .int 1)])) = H4 at *
  have E4 : Ex H H4 := Ex.trans e3 e4
  have S4 := S.same E4
  refine ⟨st, c, l, _, rfl, S4.same (Ex.new nl), (S4.of_new nl).1, .inr (SqT.of upd_same), by show 0 < 7; decide, by show 7 < _; decide, fun v H' hv S' e' => k v H' S' ((Kp.of (Ex.trans E4 (Ex.new nl))).trans e') ?_⟩
  have kp : ∀ {p : Addr} {o : HO}, H p = none → H4 p = some o → H' p = some o := fun {p o} n h => e' _ _ (by
    obtain ⟨ys, hs⟩ := S.neL
    exact (ne_of_none hs n).symm) (Ex.new nl _ _ h)
  simp only [List.mem_cons, List.not_mem_nil, or_false] at hv
  rcases hv with rfl | rfl | rfl | rfl | rfl | rfl | rfl
  · exact .inl (.inr (.inr (.inr rfl)))
  · exact .inl (.inl ⟨_, rfl⟩)
  · exact .inl (.inr (.inr (.inl ⟨_, rfl⟩)))
  · exact .inr ⟨_, rfl, q3, _, kp q3 (e4 _ _ g3)⟩
  · exact .inl (.inr (.inl ⟨_, rfl⟩))
  · exact .inr ⟨_, rfl, q4, _, kp q4 g4⟩
  · exact .inl (.inr (.inr (.inl ⟨_, rfl⟩)))
theorem Od.any {B : Addr → Prop} {v : V} (h : Od B H v) : AnyV K H v := by
  rcases h with h | ⟨a, rfl, _, h⟩
  · rcases h with ⟨s, rfl, _⟩ | rfl | ⟨b, rfl⟩ | ⟨i, rfl, _⟩
    · exact .inl ⟨s, rfl⟩
    · exact .inr ⟨⟨_, fun _ _ => .base .non, by decide +kernel⟩, fun s z => by cases z⟩
    · exact .inr ⟨⟨_, fun _ _ => .base (.bl b), by decide +kernel⟩, fun s z => by cases z⟩
    · exact .inr ⟨⟨_, fun _ _ => .base (.int i), by decide +kernel⟩, fun s z => by cases z⟩
  · refine .inr ⟨?_, fun s z => by cases z⟩
    rcases h with ⟨xs, h, hl⟩ | ⟨xs, h, hl⟩ | h
    · exact ⟨_, fun H' e => .base (.tup (e _ _ h)), by decide +kernel⟩
    · exact ⟨_, fun H' e => .base (.lst (e _ _ h)), by decide +kernel⟩
    · exact ⟨_, fun H' e => .base (.dK (e _ _ h)), by decide +kernel⟩
/-! ### all of a turn -/
structure J05 (K : PySem.W.Frag) (CW : Addr) (Tl : List (Addr × Str)) (st c rA wk sA tA h : Addr) (b : Bool) (ws vs : List Str) (xs : List V) (ds : List PyData) (br : V) (H : Hp) : Prop where
  S : StAt H st c
  T : Tabs Tl H
  n : rA ≠ st ∧ sA ≠ st ∧ tA ≠ st ∧ h ≠ st
  hr : H rA = some (.lst (ws.map V.str))
  wk : WkAt CW H wk "a" ws
  hs : H sA = some (.lst (vs.map V.str))
  ht : H tA = some (.lst xs)
  hh : HdAt b H h xs
  th : ∀ x ∈ xs, Od (Bo st st) H x
  pd : ∀ H', Kb st st H H' → Paired (fun x d => ItD K H' x d) xs ds
  br : BrN (Bo st st) H br
theorem J05.extn {CW : Addr} {Tl : List (Addr × Str)} {rA wk sA tA h : Addr} {b : Bool} {ws vs : List Str} {xs : List V} {ds : List PyData} {br : V} {H' : Hp} (j : J05 K CW Tl st c rA wk sA tA h b ws vs xs ds br H) (e : ExtN H H') (T' : Tabs Tl H') : J05 K CW Tl st c rA wk sA tA h b ws vs xs ds br H' := by
  have kb : Kb st st H H' := fun b o hb hn _ => e b o hb hn
  obtain ⟨n1, n2, n3, n4⟩ := j.n
  exact ⟨j.S.extn e, T', j.n, e _ _ j.hr (fun _ z => by cases z), j.wk.extn e, e _ _ j.hs (fun _ z => by cases z), e _ _ j.ht (fun _ z => by cases z), j.hh.kb kb ⟨n4, n4⟩, fun x hx => kb.od (j.th x hx), fun H2 e2 => j.pd H2 (kb.trans e2), j.br.mono fun a o q ho nt => ⟨q, kb.at q ho nt⟩⟩
theorem J05.same {CW : Addr} {Tl : List (Addr × Str)} {rA wk sA tA h : Addr} {b : Bool} {ws vs : List Str} {xs : List V} {ds : List PyData} {br : V} {H' : Hp} (j : J05 K CW Tl st c rA wk sA tA h b ws vs xs ds br H) (e : Ex H H') : J05 K CW Tl st c rA wk sA tA h b ws vs xs ds br H' := j.extn (.of e) (j.T.ext e)
end
theorem es_due {K : PySem.W.Frag} {σ : L2.St} {H : Hp} {ta tb : TE} {r a : Addr} {ws : List Str} {xs : List V} {s : Sh} (h1 : Ev ta σ H (.ref r)) (h2 : Ev tb σ H (.ref a)) (hr : H r = some (.lst (ws.map V.str))) (ha : H a = some (.lst xs)) (hw : WOk ws) (l1 : xs.length ≤ 60) (hx : ∀ H', Ex H H' → ∀ x ∈ xs, AnyV K H' x) (hd : DueS ws xs s) :
    EvS (tCall (spDue05 K) [] E0 (tCons ta (tCons tb tNil))) σ H 3 s := fun H1 e1 Q q => h1 H1 e1 _ fun H2 e2 => h2 H2 (Ex.trans e1 e2) _ fun H3 e3 => by
  have e := Ex.trans e1 (Ex.trans e2 e3)
  exact ⟨r, a, ws, xs, s, rfl, e _ _ hr, e _ _ ha, hw.ok.nd, hw.l1, l1, hx H3 e, hd, fun v H4 s4 rp => q v H4 (Ex.trans (Ex.trans e2 e3) s4) (rp.imp fun p hp _ => .inr (fresh_back (Ex.trans e2 e3) hp))⟩
end Lm

namespace Lm
open PySem L2 Evl RZ LamX
theorem wk_kb {C st D a : Addr} {H H' : Hp} {nm : Str} {ws : List Str} (e : Kb st D H H') (k : WkAt C H a nm ws) : WkAt C H' a nm ws := by
  obtain ⟨⟨dx, t, d, h1, h2, h3⟩⟩ := k
  exact ⟨⟨dx, t, d, e _ _ h1 (fun _ z => by cases z) (fun _ _ z => by cases z), e _ _ h2 (fun _ z => by cases z) (fun _ _ z => by cases z), e _ _ h3 (fun _ z => by cases z) (fun _ _ z => by cases z)⟩⟩
theorem pick_subS (ws : List Str) (S : Nat → Bool) : (pick ws S).Sublist ws := by
  have h : ((List.range ws.length).filter S).Sublist (List.range ws.length) := List.filter_sublist
  have := h.map fun i => ws.getD i no
  rw [range_getD] at this
  exact this
theorem idx_nd {ws : List Str} (nd : ws.Nodup) {i : Nat} {s : Str} (h : ws[i]? = some s) : idxW ws s = i + 1 := by
  obtain ⟨j, h1, h2⟩ := idxW_at (List.mem_of_getElem? h)
  rw [h2, nd_ix nd h1 h]
theorem due_pick {ws : List Str} (nd : ws.Nodup) (S : Nat → Bool) : DueS ws ((pick ws S).map V.str) (.t [.v (.str "made"), .l (((pick ws S).map V.str).map .v)]) := by
  refine .inr ⟨fun i hi => ?_, rfl⟩
  rw [List.length_map] at hi
  have hi' : i < (idx ws.length S).length := by
    unfold pick at hi
    rw [List.length_map] at hi
    exact hi
  have at_ : ∀ m j, (idx ws.length S)[m]? = some j → ((pick ws S).map V.str)[m]? = some (V.str (ws.getD j no)) ∧ cutOf ws (V.str (ws.getD j no)) = j + 1 := fun m j h => by
    refine ⟨by unfold pick; rw [List.map_map, List.getElem?_map, h]; rfl, ?_⟩
    exact idx_nd nd (nth_at (idx_mem.mp (List.mem_of_getElem? h)).1)
  obtain ⟨j, hj⟩ : ∃ j, (idx ws.length S)[i]? = some j := ⟨_, List.getElem?_eq_getElem hi'⟩
  obtain ⟨h1, h2⟩ := at_ i j hj
  unfold badE
  rw [h1]
  refine decide_eq_false ?_
  show ¬ (cutOf ws (.str (ws.getD j no)) ≤ prevC ws _ i)
  rw [h2]
  cases i with
  | zero => show ¬ (j + 1 ≤ 0); omega
  | succ i =>
    obtain ⟨j', hj'⟩ : ∃ j', (idx ws.length S)[i]? = some j' := ⟨_, List.getElem?_eq_getElem (by omega)⟩
    obtain ⟨g1, g2⟩ := at_ i j' hj'
    have hlt : j' < j := by
      obtain ⟨a1, b1⟩ := List.getElem?_eq_some_iff.mp hj'
      obtain ⟨a2, b2⟩ := List.getElem?_eq_some_iff.mp hj
      have := List.pairwise_iff_getElem.mp (idx_sorted ws.length S) i (i + 1) a1 a2 (by omega)
      rw [b1, b2] at this
      exact this
    show ¬ (j + 1 ≤ (match ((pick ws S).map V.str)[i]? with
      | some y => cutOf ws y
      | none => 0))
    rw [g1]
    show ¬ (j + 1 ≤ cutOf ws (.str (ws.getD j' no)))
    rw [g2]
    omega
/-- xs + [y], xs a list at a -/
theorem el_cat_at {σ : L2.St} {H : Hp} {te : TE} {i : Nat} {a : Addr} {xs : List V} {y : V} (hi : σ[i]? = some (some (.ref a))) (ha : H a = some (.lst xs)) (hy : Ev te σ H y) (hl : xs.length ≤ 90000) {Q : VK} (k : ∀ l H1, H l = none → Ex H H1 → H1 l = some (.lst (xs ++ [y])) → Q (.ref l) H1) : tOp rCat (tVar i) (tLst (tCons te tNil)) σ H Q :=
  el_catV (ys := [y]) (ev_var hi) ha (el_lst (ea_cons hy ea_nil) (by show 1 ≤ 100000; decide)) (by show _ + 1 ≤ 100000; omega) H (Ex.refl _) _ fun p H1 np e hp => k p H1 np e hp
section
variable {P : Program} {w : World} {K : PySem.W.Frag} {mg : Str → Option Value} {base : Heap} {f : Addr} {fd : FuncData}
abbrev s_law : Stmt := top 31
theorem sc_law : FnScope ["_law_script", "_law_state", "_law_turn", "_law_rows", "_law_base", "_law_some", "_law_things", "_law_k", "_law_x", "_law_handed_here", "_law_bare", "_law_kept_here", "_law_again", "_law_found", "_law_due_here"] ["_law_script"] (defScope s_law) := ⟨rfl, rfl, rfl, by decide +kernel, rfl, by decide +kernel, by decide +kernel⟩
theorem ok_law {CW CE CA CB c0 T1 g fN fM f1 f2 f3 f4 f5 f6 f7 f8 f9 fk g1 g2 g3 : Addr} {fdg d1 d2 d3 d4 d5 d6 d7 d8 d9 dk c1 c2 c3 : FuncData} (F : L2.Fun K "law" "law" s_law f fd) (hc : fd.code = Value.ref c0) (T : Blt mg) (TR : ReprB mg)
    (Fg : L2.Fun K "_law_tried" "_law_tried" s_tried g fdg) (hbg : L2.Binds K fdg ["_law_ask"] []) (hmg : mg "_law_tried" = some (.ref g)) (TEw : ErrF K mg "BadWord" CA fN "word") (TEp : ErrF K mg "BadPassage" CB fM "index") (hsub : PySem.W.subIn K (.ref CB) (.ref CA) = some false) (TB : LamX.TabB base mg c0 T1)
    (D_fresh : DefOk P w K mg base 1 "_law_fresh" f1 d1 ["_law_script"] (spFresh K)) (D_take : DefOk P w K mg base 2 "_law_take" f2 d2 ["_law_state", "_law_many"] spTake) (D_one : DefOk P w K mg base 3 "_law_one" f3 d3 ["_law_state", "_law_things"] (spOneA K)) (D_some_words : DefOk P w K mg base 3 "_law_some_words" f4 d4 ["_law_state", "_law_many"] spSomeWA)
    (D_handed : DefOk P w K mg base 3 "_law_handed" f5 d5 ["_law_state", "_law_things"] spHanded) (D_odd : DefOk P w K mg base 4 "_law_odd" f6 d6 ["_law_state"] spOdd) (D_due : DefOk P w K mg base 1 "_law_due" f7 d7 ["_law_rows", "_law_things"] (spDue05 K)) (D_same : DefOk P w K mg base 4 "_law_same" f8 d8 ["_law_found", "_law_due_here"] (spSame 4))
    (D_mix : DefOk P w K mg base 3 "_law_mix" f9 d9 ["_law_state", "_law_things"] spMixV) (D_kept : DefOk P w K mg base 4 "_law_kept" fk dk ["_law_state", "_law_many"] spKept) (K_Work : ClsOk P w K mg base 2 "Work" CW g1 c1 ["self", "name", "passages"] (spWkInit CW))
    (KX_Edition : ClsOkX P w K mg base 4 "Edition" CE g2 c2 ["self", "work", "passages"] (spEdE K CW CE CB)) (M_Edition_passages : MetOk P w K mg base 1 CE "passages" g3 c3 ["self"] (spEdPs CW CE)) : FnOkG P w K mg base CX0 12 f fd ["_law_script"] (spLawT K T1) := by
  refine okCG F hc sc_law (fun vs H Q E h => ?_) (fun A hg outer s H vs Q E hr h => ?_)
  · obtain ⟨a, ns, rfl, _⟩ := h
    rfl
  · obtain ⟨a, ns, rfl, hS, hl, hT1, k⟩ := h
    have D_room : Room 4 _ := hr.mono (by decide)
    have hmT : (T1, ql05) ∈ [(T1, ql05)] := List.mem_cons_self ..
    have hu : ∀ p ∈ [(T1, ql05)], p.1 = T1 → p.2 = ql05 := fun p hp _ => by rw [List.mem_singleton.mp hp]
    refine ⟨_, (pss_cons (ps_set (i := 1) sc_law.nd rfl (by first | exact Or.inl rfl | exact Or.inr rfl) (pe_d D_fresh (hr.mono (by decide)) (pa_cons (pv 0) pa_nil)))
        (pss_cons (ps_for PassesOwn.never rfl (pi_range1 rfl T.b_range (pa_cons pe_int pa_nil)) (pg_name (i := 2) sc_law.nd rfl (by first | exact Or.inl rfl | exact Or.inr rfl)) (pss_cons (ps_set (i := 3) sc_law.nd rfl (by first | exact Or.inl rfl | exact Or.inr rfl) (pe_d D_some_words (hr.mono (by decide)) (pa_cons (pv 1) (pa_cons (pe_d D_one (hr.mono (by decide)) (pa_cons (pv 1) (pa_cons (pe_tup (pa_cons pe_int (pa_cons pe_int (pa_cons pe_int (pa_cons pe_int (pa_cons pe_int (pa_cons pe_int pa_nil))))))) pa_nil))) pa_nil))))
        (pss_cons (ps_asg (pe_tup (by exact (pa_cons (pe_mk K_Work (hr.mono (by decide)) (pa_cons pe_str (pa_cons (pv 3) pa_nil))) (pa_cons (pe_lc (own := [("_law_k", 7)]) (g := gName 7) (tt := tYes) (te := (tOp (rIxL K) (tVar 3) (tVar 7))) rfl sc_law.nd (pi_list (pe_d D_kept (hr.mono (by decide)) (pa_cons (pv 1) (pa_cons (pe_callB call_len_seq (by rfl) T.b_len PySem.boot_len (pa_cons (pv 3) pa_nil)) pa_nil)))) (blkOk_by (own := [("_law_k", 7)]) (by kernel_rfl)) (fun _ _ _ _ _ => (pg_name (i := 7) sc_law.nd rfl (by first | exact Or.inl rfl | exact Or.inr rfl))) (fun _ _ _ _ _ => pts_nil) (fun _ _ _ _ _ => by exact (pe_ix ix_list (pv 3) (pv 7) (fun _ _ => rfl)))) pa_nil)))) (pg_tup rfl (pgs_cons (pg_name (i := 4) sc_law.nd rfl (by first | exact Or.inl rfl | exact Or.inr rfl)) (pgs_cons (pg_name (i := 5) sc_law.nd rfl (by first | exact Or.inl rfl | exact Or.inr rfl)) pgs_nil))))
        (pss_cons (ps_set (i := 6) sc_law.nd rfl (by first | exact Or.inl rfl | exact Or.inr rfl) (pe_callTy call_list_of (by rfl) T.b_list (by decide +kernel) (pa_cons (pv 5) pa_nil)))
        (pss_cons (ps_for PassesOwn.never rfl (pi_range1 rfl T.b_range (pa_cons (pe_d D_take (hr.mono (by decide)) (pa_cons (pv 1) (pa_cons pe_int pa_nil))) pa_nil)) (pg_name (i := 7) sc_law.nd rfl (by first | exact Or.inl rfl | exact Or.inr rfl)) (pss_cons (ps_set (i := 8) sc_law.nd rfl (by first | exact Or.inl rfl | exact Or.inr rfl) (pe_ifExp (pt_cmpR op_eq (pe_d D_take (hr.mono (by decide)) (pa_cons (pv 1) (pa_cons pe_int pa_nil))) pe_int (nomark _)) (pe_d D_odd (hr.mono (by decide)) (pa_cons (pv 1) pa_nil)) (pe_d D_one (hr.mono (by decide)) (pa_cons (pv 1) (pa_cons (pe_op op_cat (pv 3) (pe_lst (pa_cons pe_str pa_nil))) pa_nil)))))
        (pss_one (ps_expr (pe_bm PySem.F.plainAttrs_list PySem.F.slot_list_insert PySem.F.type_list_insert mt_insert (pv 6) (pa_cons (pe_d D_take (hr.mono (by decide)) (pa_cons (pv 1) (pa_cons (pe_op op_add (pe_callB call_len_seq (by rfl) T.b_len PySem.boot_len (pa_cons (pv 6) pa_nil)) pe_int) pa_nil))) (pa_cons (pv 8) pa_nil)))))))
        (Evl.pss_cut (ps_if (pt_cmpR op_eq (pe_d D_take (hr.mono (by decide)) (pa_cons (pv 1) (pa_cons pe_int pa_nil))) pe_int (nomark _)) (pss_one (ps_set (i := 6) sc_law.nd rfl (by first | exact Or.inl rfl | exact Or.inr rfl) (pe_d D_mix (hr.mono (by decide)) (pa_cons (pv 1) (pa_cons (pv 6) pa_nil))))) pss_nil)
        (pss_cons (ps_asg (pe_tup (pa_cons (pe_d D_handed (hr.mono (by decide)) (pa_cons (pv 1) (pa_cons (pv 6) pa_nil))) (pa_cons (pe_d D_one (hr.mono (by decide)) (pa_cons (pv 1) (pa_cons (pe_tup (pa_cons pe_non (pa_cons pe_int (pa_cons pe_str (pa_cons pe_dnewK (pa_cons pe_bl (pa_cons (pe_disp (pps_cons pe_str pe_int pps_nil) (by rfl) (by rfl) (fun z => by cases z) (by decide)) (pa_cons pe_str pa_nil)))))))) pa_nil))) pa_nil))) (pg_tup rfl (pgs_cons (pg_name (i := 9) sc_law.nd rfl (by first | exact Or.inl rfl | exact Or.inr rfl)) (pgs_cons (pg_name (i := 10) sc_law.nd rfl (by first | exact Or.inl rfl | exact Or.inr rfl)) pgs_nil))))
        (pss_cons (ps_set (i := 11) sc_law.nd rfl (by first | exact Or.inl rfl | exact Or.inr rfl) (pe_callB (cr_reprI hg hr.units) (by rfl) TR.b_repr (by decide +kernel) (pa_cons (pv 9) pa_nil)))
        (pss_cons (ps_for PassesOwn.never rfl (pi_range1 rfl T.b_range (pa_cons pe_int pa_nil)) (pg_name (i := 12) sc_law.nd rfl (by first | exact Or.inl rfl | exact Or.inr rfl)) (pss_cons (ps_set (i := 13) sc_law.nd rfl (by first | exact Or.inl rfl | exact Or.inr rfl) (pe_lst (pa_cons (pe_tried (k := 8) Fg hbg hmg TEw TEp hsub M_Edition_passages TB rfl hmT hu (by decide) (hr.mono (by decide)) (fun A outer s H E f c2 hr2 => by exact (pe_mkL KX_Edition (hr2.mono (by decide)) (pa_cons (pv 4) (pa_cons (pv 9) pa_nil)))) (LamX.lamS_by (by kernel_rfl))) pa_nil)))
        (pss_cons (ps_expr (pe_bm PySem.F.plainAttrs_list PySem.F.slot_list_append PySem.F.type_list_append mt_append (pv 13) (pa_cons (pe_tried (k := 8) Fg hbg hmg TEw TEp hsub M_Edition_passages TB rfl hmT hu (by decide) (hr.mono (by decide)) (fun A outer s H E f c2 hr2 => by exact (pe_mkL KX_Edition (hr2.mono (by decide)) (pa_cons (pv 4) (pa_cons (pv 10) pa_nil)))) (LamX.lamS_by (by kernel_rfl))) pa_nil)))
        (pss_one (ps_if (PW.pt (pw_or (pt_not (pt_val (pe_d D_same D_room (pa_cons (pv 13) (pa_cons (pe_lst (pa_cons (pe_d D_due (hr.mono (by decide)) (pa_cons (pv 3) (pa_cons (pv 6) pa_nil))) (pa_cons (pe_tup (pa_cons pe_str (pa_cons pe_int pa_nil))) pa_nil))) pa_nil))))) (pw_or1 (pt_cmpR op_ne (pe_callB (cr_reprI hg hr.units) (by rfl) TR.b_repr (by decide +kernel) (pa_cons (pv 9) pa_nil)) (pv 11) (nomark _))))) (pss_one (ps_ret pe_bl)) pss_nil)))))
        (pss_cons (ps_set (i := 14) sc_law.nd rfl (by first | exact Or.inl rfl | exact Or.inr rfl) (pe_lst (pa_cons (pe_tup (pa_cons pe_str (pa_cons (pv 5) pa_nil))) (pa_cons (pe_tup (pa_cons pe_str (pa_cons (pe_lst pa_nil) pa_nil))) pa_nil))))
        (pss_cons (ps_set (i := 13) sc_law.nd rfl (by first | exact Or.inl rfl | exact Or.inr rfl) (pe_lst (pa_cons (pe_tried (k := 8) Fg hbg hmg TEw TEp hsub M_Edition_passages TB rfl hmT hu (by decide) (hr.mono (by decide)) (fun A outer s H E f c2 hr2 => by exact (pe_mkL KX_Edition (hr2.mono (by decide)) (pa_cons (pv 4) (pa_cons (pv 5) pa_nil)))) (LamX.lamS_by (by kernel_rfl))) pa_nil)))
        (pss_cons (ps_expr (pe_bm PySem.F.plainAttrs_list PySem.F.slot_list_append PySem.F.type_list_append mt_append (pv 13) (pa_cons (pe_tried (k := 8) Fg hbg hmg TEw TEp hsub M_Edition_passages TB rfl hmT hu (by decide) (hr.mono (by decide)) (fun A outer s H E f c2 hr2 => by exact (pe_mkL KX_Edition (hr2.mono (by decide)) (pa_cons (pv 4) (pa_cons (pe_tup pa_nil) pa_nil)))) (LamX.lamS_by (by kernel_rfl))) pa_nil)))
        (pss_one (ps_if (pt_not (pt_val (pe_d D_same D_room (pa_cons (pv 13) (pa_cons (pv 14) pa_nil))))) (pss_one (ps_ret pe_bl)) pss_nil))))))))))))))
        (pss_one (ps_ret pe_bl)))), ?_⟩
    refine ⟨_, rfl, a, ns, rfl, hS, hl, fun st c H0 nst nc e0 S0 => ?_⟩
    have TS0 : Tabs [(T1, ql05)] H0 := fun p hp => by
      rw [List.mem_singleton.mp hp]
      exact TabS.nil (e0 _ _ hT1)
    refine ⟨_, rfl, by decide, by decide, for_range (lo := 0) (n := 10) (fun i σ' H' => ∃ v2 v3 v4 v5 v6 v7 v8 v9 v10 v11 v12 v13 v14 : Option V, σ' = [some (.ref a), some (.ref st), v2, v3, v4, v5, v6, v7, v8, v9, v10, v11, v12, v13, v14] ∧ StAt H' st c ∧ Tabs [(T1, ql05)] H')
      ⟨none, none, none, none, none, none, none, none, none, none, none, none, none, rfl, S0, TS0⟩ ?_ ?_⟩
    · rintro i σ' H hi ⟨v2, v3, v4, v5, v6, v7, v8, v9, v10, v11, v12, v13, v14, rfl, S, TS⟩
      refine ⟨_, rfl, go_size05 S rfl fun m H1 m0 m1 S1 e1 => ⟨st, c, m, rfl, S1, by omega, fun rA ws H2 nrA hws hmem S2 e2 hr2 => ?_⟩⟩
      have TS2 := Tabs_st (Tabs_st TS e1 S) e2 S1
      have lw : ws.length = m := hws.len
      have hw : WOk ws := ⟨⟨rfl, hws.nd, hws.wd⟩, by omega, by omega⟩
      have br : rA ≠ st := (S1.of_new nrA).1
      clear nrA e1 S1 S TS e2 hT1 TS0 S0 e0 nst nc
      dsimp only [gName, List.set]
      -- the work, some of its passages
      have ia : isW "a" = true := by decide +kernel
      refine ⟨_, rfl, mkWk ia hw (.inl hr2) fun wk H3 nwk x3 hwk => ?_⟩
      have S3 := S2.same x3
      have TS3 := TS2.ext x3
      have hr3 := x3 _ _ hr2
      refine some_ok (K := K) rfl rfl (by show 7 < 15; decide) S3 br hr3 hw _ fun sA H4 Sf nsA S4 e4 hs4 => ?_
      obtain ⟨ys3, hst3⟩ := S3.neL
      have hwk4 := hwk.kp e4 hst3
      have hr4 := e4 _ _ br hr3
      have TS4 := Tabs_st TS3 e4 S3
      have bs : sA ≠ st := (S3.of_new nsA).1
      refine ⟨by show 2 ≤ sizeLine; decide, fun tp ntp => ⟨tp, _, rfl, SqT.of upd_same, rfl, _, _, rfl, _, _, rfl, rfl, ?_⟩⟩
      have x5 := Ex.new ntp (o := .tup [.ref wk, .ref sA])
      have S5 := S4.same x5
      have TS5 := TS4.ext x5
      have hr5 := x5 _ _ hr4
      have hs5 := x5 _ _ hs4
      have hwk5 := hwk4.same x5
      generalize upd H4 tp (.tup [.ref wk, .ref sA]) = H5 at *
      clear x3 x5 e4 S2 S3 S4 TS2 TS3 TS4 hr2 hr3 hr4 hs4 hwk hwk4 hst3 nwk nsA ntp
      have lv : (pick ws Sf).length ≤ 12 := by rw [pick_len]; exact Nat.le_trans (cnt_le _ _) (by omega)
      have vword : ∀ s ∈ pick ws Sf, isW s = true := fun s hs => hws.wd s ((pick_subS ws Sf).mem hs)
      have vgood := due_pick hw.ok.nd Sf
      generalize pick ws Sf = vs at hs5 lv vword vgood
      dsimp only [gName, List.set]
      -- things
      refine ⟨_, rfl, sA, _, rfl, .inl (SqL.of hs5), fun tA ntA => ?_⟩
      have x6 := Ex.new ntA (o := .lst (vs.map V.str))
      have ht6 : (upd H5 tA (.lst (vs.map V.str))) tA = some (.lst (vs.map V.str)) := upd_same
      have bt := (S5.of_new ntA).1
      have btc := (S5.of_new ntA).2
      have brt : rA ≠ tA := ne_of_none hr5 ntA
      have bst : sA ≠ tA := ne_of_none hs5 ntA
      have S6 := S5.same x6
      have TS6 := TS5.ext x6
      have hr6 := x6 _ _ hr5
      have hs6 := x6 _ _ hs5
      have hwk6 := hwk5.same x6
      generalize upd H5 tA (.lst (vs.map V.str)) = H6 at *
      clear x6 S5 TS5 hr5 hs5 hwk5 ntA
      dsimp only [gName, List.set]
      refine ⟨_, rfl, st, c, 4, rfl, S6, by decide, by decide, fun d H7 d0 d4 S7 e7 => ⟨_, rfl, by omega, by omega, for_range (lo := 0) (n := d.toNat) (fun j σ' H' => ∃ (u7 u8 : Option V) (xs : List V), σ' = [some (.ref a), some (.ref st), some (.int ((0 : Int) + (i : Int))), some (.ref rA), some (.ref wk), some (.ref sA), some (.ref tA), u7, u8, v9, v10, v11, v12, v13, v14] ∧ xs.length ≤ 12 + j ∧ StAt H' st c ∧ Tabs [(T1, ql05)] H' ∧ H' rA = some (.lst (ws.map V.str)) ∧ WkAt CW H' wk "a" ws ∧ H' sA = some (.lst (vs.map V.str)) ∧ H' tA = some (.lst xs) ∧ ∀ x ∈ xs, Od (Bo st tA) H' x)
        ⟨_, _, vs.map V.str, rfl, by rw [List.length_map]; omega, S7, Tabs_st TS6 e7 S6, e7 _ _ br hr6, hwk6.kp e7 S6.neL.choose_spec, e7 _ _ bs hs6, e7 _ _ bt ht6, fun x hx => by
          obtain ⟨s, hs, rfl⟩ := List.mem_map.mp hx
          exact .inl (odf_word (vword s hs))⟩ ?_ ?_⟩⟩
      · clear S6 TS6 hr6 hs6 ht6 hwk6 e7 S7
        rintro j σ' H hj ⟨u7, u8, xs, rfl, l1, S, TS, hr0, hwk0, hs0, ht, hx⟩
        dsimp only [gName, List.set]
        have fresh : ∀ {b : Addr}, H b = none → Bo st tA b := fun hb => by
          obtain ⟨ys, hst⟩ := S.neL
          exact ⟨(ne_of_none hst hb).symm, (ne_of_none ht hb).symm⟩
        refine sq_asgP (fun y H5 => StAt H5 st c ∧ Kp st H H5 ∧ Od (Bo st tA) H5 y) (fun Q q => ⟨_, rfl, st, c, 3, rfl, S, by decide, by decide, fun d2 H5 d20 d21 S5 e5 => ⟨rfl, _, rfl, ite2 (fun _ => ?_) (fun _ => ?_)⟩⟩) fun y H5 ⟨S5, e5, hy⟩ => ?_
        · exact ⟨_, rfl, st, c, rfl, S5, fun v H6 S6 e6 hv _ => q v H6 ⟨S6, e5.trans e6, hv.imp fun b hb _ => fresh (e5.free (fun z => by subst z; obtain ⟨ys, hst⟩ := S5.neL; rw [hst] at hb; cases hb) hb)⟩⟩
        · refine ⟨_, rfl, ?_⟩
          refine el_cat_at (i := 3) (by exact rfl) (e5 _ _ br hr0) ev_c (by rw [List.length_map]; omega) fun l2 H6 nl2 x6 hl2 => ?_
          have S6 := S5.same x6
          refine ⟨st, c, l2, _, rfl, S6, (S5.of_new nl2).1, .inl (SqL.of hl2), by rw [List.length_append, List.length_map]; omega, by rw [List.length_append, List.length_map]; show _ + 1 < _; omega, fun v H7 hv S7 e7 => q v H7 ⟨S7, (e5.trans (Kp.of x6)).trans e7, ?_⟩⟩
          rcases List.mem_append.mp hv with hv | hv
          · obtain ⟨s, hs, rfl⟩ := List.mem_map.mp hv
            exact .inl (odf_word (hws.wd s hs))
          · rw [List.mem_singleton.mp hv]
            exact .inl (odf_word (by decide +kernel))
        have kb5 : Kb st tA H H5 := Kb.of (KpN.of e5) S
        have ht5 := e5 _ _ bt ht
        have hr5 := e5 _ _ br hr0
        have hs5 := e5 _ _ bs hs0
        have hwk5 := hwk0.kp e5 S.neL.choose_spec
        have TS5 := Tabs_st TS e5 S
        dsimp only [gName, List.set]
        refine ⟨_, rfl, .inl ⟨rfl, _, SqL.of ht5⟩, _, rfl, _, rfl, tA, _, rfl, .inl (SqL.of ht5), _, _, rfl, rfl, st, c, _, rfl, S5, by omega, by omega, fun d2 H6 d20 d21 S6 e6 => ?_⟩
        have ht6 := e6 _ _ bt ht5
        refine ⟨_, rfl, tA, xs, d2, d2.toNat, y, rfl, rfl, by omega, ht6, by omega, by omega, ?_⟩
        have kb6 : Kb st tA H5 H6 := Kb.of (KpN.of e6) S5
        have kb7 : Kb st tA H6 (upd H6 tA (.lst (xs.take d2.toNat ++ y :: xs.drop d2.toNat))) := Kb.mut ht6
        refine ⟨_, _, _, rfl, by rw [List.length_append, List.length_take, List.length_cons, List.length_drop]; omega, S6.mut bt btc, Tabs_mutL (Tabs_st TS5 e6 S5) ht6, by rw [upd_ne brt]; exact e6 _ _ br hr5, wk_kb (kb6.trans kb7) hwk5, by rw [upd_ne bst]; exact e6 _ _ bs hs5, upd_same, fun x hx' => ?_⟩
        have := List.mem_append.mp hx'
        rcases this with q | q
        · exact ((kb5.trans kb6).trans kb7).od (hx x (List.mem_of_mem_take q))
        · rcases List.mem_cons.mp q with rfl | q
          · exact (kb6.trans kb7).od hy
          · exact ((kb5.trans kb6).trans kb7).od (hx x (List.mem_of_mem_drop q))
      clear S6 TS6 hr6 hs6 ht6 hwk6 e7 S7 H6 H7
      rintro σ' H3 ⟨u7, u8, xs0, rfl, l1, S3, TS3, hr3, hwk3, hs3, ht3, hx⟩
      replace l1 : xs0.length ≤ 15 := by omega
      clear d0 d4 d
      -- in a drawn order
      refine q_cut (M := fun σ' H' => ∃ (tA : Addr) (xs : List V), σ' = [some (.ref a), some (.ref st), some (.int ((0 : Int) + (i : Int))), some (.ref rA), some (.ref wk), some (.ref sA), some (.ref tA), u7, u8, v9, v10, v11, v12, v13, v14] ∧ xs.length ≤ 15 ∧ StAt H' st c ∧ Tabs [(T1, ql05)] H' ∧ H' rA = some (.lst (ws.map V.str)) ∧ WkAt CW H' wk "a" ws ∧ H' sA = some (.lst (vs.map V.str)) ∧ tA ≠ st ∧ H' tA = some (.lst xs) ∧ ∀ x ∈ xs, Od (Bo st st) H' x) ?_ ?_
      · refine ⟨_, rfl, st, c, 4, rfl, S3, by decide, by decide, fun d H4 d0 d4 S4 e4 => ⟨rfl, _, rfl, ite2 (fun _ => ?_) (fun _ => ?_)⟩⟩
        · refine ⟨_, rfl, _, rfl, st, c, tA, xs0, rfl, S4, bt, e4 _ _ bt ht3, by omega, fun q l' H5 nq hp S5 e5 hq => ?_⟩
          have k5 : KpN st H3 H5 := (KpN.of e4).trans (KpN.of e5)
          exact ⟨q, l', rfl, by rw [hp.length_eq]; omega, S5, Tabs_st (Tabs_st TS3 e4 S3) e5 S4, e5 _ _ br (e4 _ _ br hr3), (hwk3.kp e4 S3.neL.choose_spec).kp e5 S4.neL.choose_spec, e5 _ _ bs (e4 _ _ bs hs3), (S4.of_new nq).1, hq, fun x hx' => (Kb.of (D := st) k5 S3).od ((hx x (hp.mem_iff.mp hx')).imp fun b hb _ => ⟨hb.1, hb.1⟩)⟩
        · exact ⟨tA, xs0, rfl, l1, S4, Tabs_st TS3 e4 S3, e4 _ _ br hr3, hwk3.kp e4 S3.neL.choose_spec, e4 _ _ bs hs3, bt, e4 _ _ bt ht3, fun x hx' => (Kb.of (D := st) (KpN.of e4) S3).od ((hx x hx').imp fun b hb _ => ⟨hb.1, hb.1⟩)⟩
      clear hx ht3 hs3 hwk3 hr3 TS3 S3 l1 bst brt btc bt
      clear xs0 H3 tA
      rintro σ' H3 ⟨tA, xs, rfl, l1, S3, TS3, hr3, hwk3, hs3, bt, ht3, hx3⟩
      -- handed; what is no row
      refine ⟨_, rfl, _, rfl, st, c, tA, xs, rfl, S3, bt, ht3, fun h H4 nh S4 e4 hh => ?_⟩
      have bh : h ≠ st := (S3.of_new nh).1
      have kb4 : Kb st st H3 H4 := Kb.of (KpN.of e4) S3
      refine go_bare5 S4 rfl fun bar H5 S5 e5 hbar => ⟨by show 2 ≤ sizeLine; decide, fun tq ntq => ⟨tq, _, rfl, SqT.of upd_same, rfl, _, _, rfl, _, _, rfl, rfl, ?_⟩⟩
      have x6 := Ex.new ntq (o := .tup [.ref h, bar])
      generalize upd H5 tq (.tup [.ref h, bar]) = H6 at *
      have kb5 : Kb st st H4 H5 := Kb.of (KpN.of e5) S4
      have kb6 : Kb st st H5 H6 := Kb.of (KpN.of (Kp.of x6)) S5
      have kb36 : Kb st st H3 H6 := kb4.trans (kb5.trans kb6)
      have kb46 : Kb st st H4 H6 := kb5.trans kb6
      obtain ⟨b, hb4⟩ := HdAt.of hh
      have hx6 : ∀ x ∈ xs, Od (Bo st st) H6 x := fun x hx' => kb36.od (hx3 x hx')
      obtain ⟨ds, hpd, hsh, hds⟩ := Od.datsL K hx6
      have J6 : J05 K CW [(T1, ql05)] st c rA wk sA tA h b ws vs xs ds bar H6 := ⟨S5.same x6, (Tabs_st (Tabs_st TS3 e4 S3) e5 S4).ext x6, ⟨br, bs, bt, bh⟩, kb36.at ⟨br, br⟩ hr3 (fun _ z => by cases z), wk_kb kb36 hwk3, kb36.at ⟨bs, bs⟩ hs3 (fun _ z => by cases z), kb36.at ⟨bt, bt⟩ ht3 (fun _ z => by cases z), hb4.kb kb46 ⟨bh, bh⟩, hx6, hpd, hbar.mono fun p o hp ho nt => ⟨?_, x6 _ _ ho⟩⟩
      rotate_left
      · have : p ≠ st := fun z => by
          subst z
          obtain ⟨ys, hst⟩ := S4.neL
          rw [hst] at hp
          cases hp
        exact ⟨this, this⟩
      clear hpd hx6 hb4 kb46 kb36 kb6 kb5 kb4 hh hbar hx3 ht3 hs3 hwk3 hr3 TS3 S3 S4 S5 e4 e5 x6 nh ntq bt bh br bs
      dsimp only [gName, List.set]
      refine q_asg (v := .str (seqD' b ds).shown) (ev_reprO (ev_var rfl) J6.hh (fun H' e => J6.pd H' (Kb.of (KpN.of (Kp.of e)) J6.S)) hsh (by omega)) fun H7 x7 => ?_
      have J7 := J6.same x7
      clear J6 x7
      dsimp only [List.set]
      obtain ⟨sh, hdue⟩ := due_ex ws xs
      refine ⟨_, rfl, by decide, by decide, for_range (lo := 0) (n := 2) (fun j σ' H' => ∃ (u12 u13 : Option V), σ' = [some (.ref a), some (.ref st), some (.int ((0 : Int) + (i : Int))), some (.ref rA), some (.ref wk), some (.ref sA), some (.ref tA), u7, u8, some (.ref h), some bar, some (.str (seqD' b ds).shown), u12, u13, v14] ∧ J05 K CW [(T1, ql05)] st c rA wk sA tA h b ws vs xs ds bar H')
        ⟨_, _, rfl, J7⟩ ?_ ?_⟩
      · clear J7
        rintro j σ' H hj ⟨u12, u13, rfl, J⟩
        dsimp only [gName, List.set]
        have any : ∀ {rx : List V} {Hz : Hp}, (∀ x ∈ rx, Od (Bo st st) Hz x) → ∀ H1, ExtN Hz H1 → ∀ x ∈ rx, AnyV K H1 x := fun hx H1 e1 x hx' => ((show Kb st st _ H1 from fun b o hb hn _ => e1 b o hb hn).od (hx x hx')).any
        refine go_fst (Tl := [(T1, ql05)]) (d := 3) (s := sh) J.T (try_ed (CA := CA) (CB := CB) (CE := CE) (i := 4) (tn := tVar 9) rfl J.wk hw (fun H1 e1 Q q => ⟨_, rfl, q h H1 (Ex.refl _) (J.hh.kb (show Kb st st _ H1 from fun b o hb hn _ => e1 b o hb hn) ⟨J.n.2.2.2, J.n.2.2.2⟩).sq⟩) (any J.th) (by omega) hdue) fun l H1 F1 => ?_
        have J1 := J.extn F1.ex F1.tb
        dsimp only [List.set]
        refine go_nxt (i := 13) F1 rfl (by show 1 ≤ 900; decide) (try_bareE (CA := CA) (CB := CB) (CE := CE) (i := 4) (j := 10) (v := bar) rfl rfl fun H2 e2 => (J1.br.mono fun p o q ho nt => ⟨q, e2 _ _ ho nt⟩).no) fun H2 F2 => ?_
        have J2 := J.extn F2.ex F2.tb
        have fr := F2.rep (by show 2 ≤ 40000; decide)
        refine s_if (b := false) (et_is (et_or (a := false) (et_not (et_B (ev_sameS (d := 4) (es_var rfl fr) (es_lst (es_cons (es_due (K := K) (ev_var rfl) (ev_var rfl) J2.hr J2.ht hw (by omega) (fun H' e => any J2.th H' (.of e)) hdue) (es_cons (es_tup (d := 2) (es_cons (es_s (d := 1) ev_c) (es_cons (es_i (d := 1) ev_c) es_nil)) (by show 2 ≤ 40000; decide)) es_nil)) (by show 2 ≤ 40000; decide))))) (b := false) fun _ => et_is (et_test (ev_op (ev_reprO (te := tVar 9) (ev_var rfl) J2.hh (fun H' e => J2.pd H' (Kb.of (KpN.of (Kp.of e)) J2.S)) hsh (by omega)) (ev_var rfl) (rv_ne rfl))) (by simp)) rfl) (fun z => nomatch z) fun _ H3 e3 => ?_
        exact ⟨_, _, rfl, J2.same e3⟩
      · clear J7
        rintro σ' H ⟨u12, u13, rfl, J⟩
        dsimp only [gName, List.set]
        have hv : ∀ x ∈ vs.map V.str, flt x := fun x hx => by
          obtain ⟨z, _, rfl⟩ := List.mem_map.mp hx
          exact .inr (.inr (.inl ⟨_, rfl⟩))
        have lvm : (vs.map V.str).length ≤ 40000 := by rw [List.length_map]; omega
        -- what is due
        have due : EvS (tLst (tCons (tTup (tCons (tC (.str "made")) (tCons (tVar 5) tNil))) (tCons (tTup (tCons (tC (.str "made")) (tCons (tLst tNil) tNil))) tNil))) [some (.ref a), some (.ref st), some (.int ((0 : Int) + (i : Int))), some (.ref rA), some (.ref wk), some (.ref sA), some (.ref tA), u7, u8, some (.ref h), some bar, some (.str (seqD' b ds).shown), u12, u13, v14] H 4 (.l [.t [.v (.str "made"), .l ((vs.map V.str).map .v)], .t [.v (.str "made"), .l []]]) :=
          es_lst (es_cons (es_tup (d := 2) (es_cons (es_s (d := 1) ev_c) (es_cons (es_var rfl (rep_flat (d := 0) trivial J.hs lvm hv)) es_nil)) (by show 2 ≤ 40000; decide)) (es_cons (es_tup (d := 2) (es_cons (es_s (d := 1) ev_c) (es_cons (es_lst (d := 1) es_nil (by decide)) es_nil)) (by show 2 ≤ 40000; decide)) es_nil)) (by show 2 ≤ 40000; decide)
        refine sq_go (due H (Ex.refl _) _ fun dv H1 x1 rdv => ?_)
        have J1 := J.same x1
        have rd := rdv.rep
        dsimp only [gName, List.set]
        refine go_fst (Tl := [(T1, ql05)]) (d := 3) (s := .t [.v (.str "made"), .l ((vs.map V.str).map .v)]) J1.T (try_ed (CA := CA) (CB := CB) (CE := CE) (i := 4) (tn := tVar 5) rfl J1.wk hw (fun H2 e2 Q q => ⟨_, rfl, q sA H2 (Ex.refl _) (.inl (e2 _ _ J1.hs fun _ z => by cases z))⟩) (fun H2 e2 x hx => by
          obtain ⟨z, _, rfl⟩ := List.mem_map.mp hx
          exact .inl ⟨z, rfl⟩) (by rw [List.length_map]; omega) vgood) fun l H2 F2 => ?_
        have J2 := J1.extn F2.ex F2.tb
        dsimp only [List.set]
        refine go_nxt (i := 13) F2 rfl (by show 1 ≤ 900; decide) (try_ed (CA := CA) (CB := CB) (CE := CE) (i := 4) (tn := tTup tNil) (xs := []) (s := .t [.v (.str "made"), .l []]) rfl J2.wk hw (fun H3 e3 Q q => ⟨by show 0 ≤ sizeLine; decide, fun p np => q p _ (Ex.new np) (.inr upd_same)⟩) (fun H3 e3 x hx => by cases hx) (by show 0 ≤ 60; decide) (.inr ⟨fun i hi => absurd hi (Nat.not_lt_zero _), rfl⟩)) fun H3 F3 => ?_
        have J3 := J1.extn F3.ex F3.tb
        have fr := F3.rep (by show 2 ≤ 40000; decide)
        refine s_if (b := false) (et_not (et_B (ev_sameS (d := 4) (es_var rfl fr) (es_var rfl (rd.extn F3.ex))))) (fun z => nomatch z) fun _ H4 e4 => ?_
        exact ⟨_, _, _, _, _, _, _, _, _, _, _, _, _, rfl, J3.S.same e4, J3.T.ext e4⟩
    · rintro σ' H ⟨v2, v3, v4, v5, v6, v7, v8, v9, v10, v11, v12, v13, v14, rfl, S, TS⟩
      exact k H
end
end Lm

namespace Lm
open PySem L2
theorem FnOk.x {P : Program} {w : World} {K : PySem.W.Frag} {mg : Str → Option Value} {base : Heap} {k : Nat} {f : Addr} {fd : FuncData} {ps : List Str} {sp : Sp} (A : L2.FnOk P w K mg base CX0 k f fd ps sp) : L2.FnOk P w K mg base (L2.CX P w) k f fd ps sp :=
  ⟨A.len, fun C outer s H args us vs Q E hr he hb hv hs => codeAny_mono (A.run C outer s H args us vs Q E hr he hb hv hs) fun r s' hq => by
    cases r with
    | error e => exact (show False from hq).elim
    | ok fl => cases fl <;> exact hq⟩
section
variable {P : Program} {w : World} {K : PySem.W.Frag} {mg : Str → Option Value} {base : Heap} {f : Addr} {fd : FuncData}
theorem ok_ed_initE {CW CE CP fC fN fL : Addr} {fdC fdN fdL : FuncData} (F : L2.Fun K "__init__" "Edition.__init__" s_Edition_init f fd) (T : Blt mg) (W : EdTxt K CE) (D_cuts_behind : DefOk P w K mg base 3 "cuts_behind" fC fdC ["work", "passages"] (spCuts CW)) (D_cuts_behindX : DefOkX P w K mg base 3 "cuts_behind" fC fdC ["work", "passages"] (spCutsX K CW CP))
    (D_counts_at : DefOk P w K mg base 1 "counts_at" fN fdN ["cuts", "length"] spCounts) (M_Work_len : MetOk P w K mg base 1 CW "__len__" fL fdL ["self"] (spWkLen CW)) : FnOk P w K mg base (L2.CX P w) 4 f fd ["self", "work", "passages"] (spEdE K CW CE CP) :=
  Lm.FnOk.or' (Lm.FnOk.x (ok_ed_init F T W D_cuts_behind D_counts_at M_Work_len)) (ok_edX (CE := CE) F T D_cuts_behindX D_counts_at M_Work_len)
end
end Lm

namespace Lm
open PySem L2
theorem all_mk {l : PySem.W.OpenLaw} {w : World} {K : PySem.W.Frag} {h : Heap} {mg : Str → Option Value} {fa C_Work C_Edition C_WD C_PS f_fresh f_fill f_take f_one f_mix f_same f_allw f_somew f_kept f_handed f_isrow f_isword f_WDinit f_PSinit f_wkinit f_wklen f_wkin f_wkend f_cuts f_counts f_edinit f_edps f_odd f_due f_tried f_law : Addr} (X : K.In h) (G : h.Ns mainGlobals mg) (hfa : mg "law" = some (.ref fa))
    {od_fresh an_fresh od_fill an_fill od_take an_take od_one an_one od_mix an_mix od_same an_same od_allw an_allw od_somew an_somew od_kept an_kept od_handed an_handed od_isrow an_isrow od_isword an_isword od_WDinit an_WDinit od_PSinit an_PSinit od_wkinit an_wkinit od_wklen an_wklen od_wkin an_wkin od_wkend an_wkend od_cuts an_cuts od_counts an_counts od_edinit an_edinit od_edps an_edps od_odd an_odd od_due an_due od_tried an_tried od_law an_law : Option Addr} {sl_fresh sl_fill sl_take sl_one sl_mix sl_same sl_allw sl_somew sl_kept sl_handed sl_isrow sl_isword sl_WDinit sl_PSinit sl_wkinit sl_wklen sl_wkin sl_wkend sl_cuts sl_counts sl_edinit sl_edps sl_odd sl_due sl_tried sl_law : Array (Option Value)} {oc_fresh kV_fresh dc_fresh pm_fresh cd_fresh ct_fresh oc_fill kV_fill dc_fill pm_fill cd_fill ct_fill oc_take kV_take dc_take pm_take cd_take ct_take oc_one kV_one dc_one pm_one cd_one ct_one oc_mix kV_mix dc_mix pm_mix cd_mix ct_mix oc_same kV_same dc_same pm_same cd_same ct_same oc_allw kV_allw dc_allw pm_allw cd_allw ct_allw oc_somew kV_somew dc_somew pm_somew cd_somew ct_somew oc_kept kV_kept dc_kept pm_kept cd_kept ct_kept oc_handed kV_handed dc_handed pm_handed cd_handed ct_handed oc_isrow kV_isrow dc_isrow pm_isrow cd_isrow ct_isrow oc_isword kV_isword dc_isword pm_isword cd_isword ct_isword oc_WDinit kV_WDinit dc_WDinit pm_WDinit cd_WDinit ct_WDinit oc_PSinit kV_PSinit dc_PSinit pm_PSinit cd_PSinit ct_PSinit oc_wkinit kV_wkinit dc_wkinit pm_wkinit cd_wkinit ct_wkinit oc_wklen kV_wklen dc_wklen pm_wklen cd_wklen ct_wklen oc_wkin kV_wkin dc_wkin pm_wkin cd_wkin ct_wkin oc_wkend kV_wkend dc_wkend pm_wkend cd_wkend ct_wkend oc_cuts kV_cuts dc_cuts pm_cuts cd_cuts ct_cuts oc_counts kV_counts dc_counts pm_counts cd_counts ct_counts oc_edinit kV_edinit dc_edinit pm_edinit cd_edinit ct_edinit oc_edps kV_edps dc_edps pm_edps cd_edps ct_edps oc_odd kV_odd dc_odd pm_odd cd_odd ct_odd oc_due kV_due dc_due pm_due cd_due ct_due oc_tried kV_tried dc_tried pm_tried cd_tried ct_tried oc_law kV_law dc_law pm_law ct_law : Value} {tL tW : Tok}
    {Z_law Y_law : Addr} {oz_law : Value} {oy_law : Option Addr} {vz_law : Array Value} {sz_law : Array (Option Value)}
    {nmWD qWD : Str} {NWD : Addr} {bsWD bmWD : List Value} {snWD : List Str} {subWD : List Value} {abWD : Bool} {colWD : Option Bool} {ddWD : Option Addr} {k0WD k1WD k2WD k3WD k5WD : Option Value} {nmPS qPS : Str} {NPS : Addr} {bsPS bmPS : List Value} {snPS : List Str} {subPS : List Value} {abPS : Bool} {colPS : Option Bool} {ddPS : Option Addr} {k0PS k1PS k2PS k3PS k5PS : Option Value}
    (a_Work : PySem.W.nsIn K mainGlobals "Work" = some (some (.ref C_Work)))
    (pg_Work : PySem.W.plainGet K C_Work Str.empty = true)
    (hd_Work : PySem.W.hasDictIn K C_Work = true)
    (po_Work : PySem.W.plainOver K C_Work = true)
    (sa_Work : PySem.W.findIn K (.ref C_Work) "__setattr__" = some (some (.builtin "object.__setattr__")))
    (mk_Work : PySem.W.makesIn K C_Work = true)
    (kc_Work : PySem.W.keepIn K (.ref C_Work) = true)
    (n_Work_name : PySem.W.findIn K (.ref C_Work) "name" = some none)
    (n_Work_words : PySem.W.findIn K (.ref C_Work) "words" = some none)
    (n_Work_ends : PySem.W.findIn K (.ref C_Work) "ends" = some none)
    (ha_Work : PySem.W.findIn K (.ref C_Work) "__class__" = some (some (.builtin "object.__class__")))
    (hn_Work : PySem.W.specialIn K (.builtin "object.__class__") "__get__" = some (some (.builtin "getset_descriptor.__get__")))
    (htk_Work : PySem.W.takesIn K (.builtin "object.__class__") = some true)
    (hm_Work : PySem.W.mroIn K C_Work (.type "object") = some true)
    (a_Edition : PySem.W.nsIn K mainGlobals "Edition" = some (some (.ref C_Edition)))
    (pg_Edition : PySem.W.plainGet K C_Edition Str.empty = true)
    (hd_Edition : PySem.W.hasDictIn K C_Edition = true)
    (po_Edition : PySem.W.plainOver K C_Edition = true)
    (sa_Edition : PySem.W.findIn K (.ref C_Edition) "__setattr__" = some (some (.builtin "object.__setattr__")))
    (mk_Edition : PySem.W.makesIn K C_Edition = true)
    (kc_Edition : PySem.W.keepIn K (.ref C_Edition) = true)
    (n_Edition_work : PySem.W.findIn K (.ref C_Edition) "work" = some none)
    (n_Edition_words : PySem.W.findIn K (.ref C_Edition) "words" = some none)
    (n_Edition_cuts : PySem.W.findIn K (.ref C_Edition) "cuts" = some none)
    (n_Edition_counts : PySem.W.findIn K (.ref C_Edition) "counts" = some none)
    (ha_Edition : PySem.W.findIn K (.ref C_Edition) "__class__" = some (some (.builtin "object.__class__")))
    (hm_Edition : PySem.W.mroIn K C_Edition (.type "object") = some true)
    (a_fresh : PySem.W.nsIn K mainGlobals "_law_fresh" = some (some (.ref f_fresh)))
    (l_fresh : K.lookup f_fresh = some ⟨oc_fresh, od_fresh, .func (PySem.W.fnOf "_law_fresh" "_law_fresh" (defArgs s_fresh) (defBody s_fresh) (defScope s_fresh) .none kV_fresh dc_fresh pm_fresh an_fresh cd_fresh ct_fresh), sl_fresh⟩)
    (c_fresh : PySem.W.codeIn K cd_fresh "_law_fresh" = true)
    (k_fresh : PySem.W.keepIn K (.ref f_fresh) = true)
    (a_fill : PySem.W.nsIn K mainGlobals "_law_fill" = some (some (.ref f_fill)))
    (l_fill : K.lookup f_fill = some ⟨oc_fill, od_fill, .func (PySem.W.fnOf "_law_fill" "_law_fill" (defArgs s_fill) (defBody s_fill) (defScope s_fill) .none kV_fill dc_fill pm_fill an_fill cd_fill ct_fill), sl_fill⟩)
    (c_fill : PySem.W.codeIn K cd_fill "_law_fill" = true)
    (k_fill : PySem.W.keepIn K (.ref f_fill) = true)
    (a_take : PySem.W.nsIn K mainGlobals "_law_take" = some (some (.ref f_take)))
    (l_take : K.lookup f_take = some ⟨oc_take, od_take, .func (PySem.W.fnOf "_law_take" "_law_take" (defArgs s_take) (defBody s_take) (defScope s_take) .none kV_take dc_take pm_take an_take cd_take ct_take), sl_take⟩)
    (c_take : PySem.W.codeIn K cd_take "_law_take" = true)
    (k_take : PySem.W.keepIn K (.ref f_take) = true)
    (a_one : PySem.W.nsIn K mainGlobals "_law_one" = some (some (.ref f_one)))
    (l_one : K.lookup f_one = some ⟨oc_one, od_one, .func (PySem.W.fnOf "_law_one" "_law_one" (defArgs s_one) (defBody s_one) (defScope s_one) .none kV_one dc_one pm_one an_one cd_one ct_one), sl_one⟩)
    (c_one : PySem.W.codeIn K cd_one "_law_one" = true)
    (k_one : PySem.W.keepIn K (.ref f_one) = true)
    (a_mix : PySem.W.nsIn K mainGlobals "_law_mix" = some (some (.ref f_mix)))
    (l_mix : K.lookup f_mix = some ⟨oc_mix, od_mix, .func (PySem.W.fnOf "_law_mix" "_law_mix" (defArgs s_mix) (defBody s_mix) (defScope s_mix) .none kV_mix dc_mix pm_mix an_mix cd_mix ct_mix), sl_mix⟩)
    (c_mix : PySem.W.codeIn K cd_mix "_law_mix" = true)
    (k_mix : PySem.W.keepIn K (.ref f_mix) = true)
    (a_same : PySem.W.nsIn K mainGlobals "_law_same" = some (some (.ref f_same)))
    (l_same : K.lookup f_same = some ⟨oc_same, od_same, .func (PySem.W.fnOf "_law_same" "_law_same" (defArgs s_same) (defBody s_same) (defScope s_same) .none kV_same dc_same pm_same an_same cd_same ct_same), sl_same⟩)
    (c_same : PySem.W.codeIn K cd_same "_law_same" = true)
    (k_same : PySem.W.keepIn K (.ref f_same) = true)
    (a_allw : PySem.W.nsIn K mainGlobals "_law_all_words" = some (some (.ref f_allw)))
    (l_allw : K.lookup f_allw = some ⟨oc_allw, od_allw, .func (PySem.W.fnOf "_law_all_words" "_law_all_words" (defArgs s_all_words) (defBody s_all_words) (defScope s_all_words) .none kV_allw dc_allw pm_allw an_allw cd_allw ct_allw), sl_allw⟩)
    (c_allw : PySem.W.codeIn K cd_allw "_law_all_words" = true)
    (k_allw : PySem.W.keepIn K (.ref f_allw) = true)
    (a_somew : PySem.W.nsIn K mainGlobals "_law_some_words" = some (some (.ref f_somew)))
    (l_somew : K.lookup f_somew = some ⟨oc_somew, od_somew, .func (PySem.W.fnOf "_law_some_words" "_law_some_words" (defArgs s_some_words) (defBody s_some_words) (defScope s_some_words) .none kV_somew dc_somew pm_somew an_somew cd_somew ct_somew), sl_somew⟩)
    (c_somew : PySem.W.codeIn K cd_somew "_law_some_words" = true)
    (k_somew : PySem.W.keepIn K (.ref f_somew) = true)
    (a_kept : PySem.W.nsIn K mainGlobals "_law_kept" = some (some (.ref f_kept)))
    (l_kept : K.lookup f_kept = some ⟨oc_kept, od_kept, .func (PySem.W.fnOf "_law_kept" "_law_kept" (defArgs s_kept) (defBody s_kept) (defScope s_kept) .none kV_kept dc_kept pm_kept an_kept cd_kept ct_kept), sl_kept⟩)
    (c_kept : PySem.W.codeIn K cd_kept "_law_kept" = true)
    (k_kept : PySem.W.keepIn K (.ref f_kept) = true)
    (a_handed : PySem.W.nsIn K mainGlobals "_law_handed" = some (some (.ref f_handed)))
    (l_handed : K.lookup f_handed = some ⟨oc_handed, od_handed, .func (PySem.W.fnOf "_law_handed" "_law_handed" (defArgs s_handed) (defBody s_handed) (defScope s_handed) .none kV_handed dc_handed pm_handed an_handed cd_handed ct_handed), sl_handed⟩)
    (c_handed : PySem.W.codeIn K cd_handed "_law_handed" = true)
    (k_handed : PySem.W.keepIn K (.ref f_handed) = true)
    (a_isrow : PySem.W.nsIn K mainGlobals "is_row" = some (some (.ref f_isrow)))
    (l_isrow : K.lookup f_isrow = some ⟨oc_isrow, od_isrow, .func (PySem.W.fnOf "is_row" "is_row" (defArgs s_is_row) (defBody s_is_row) (defScope s_is_row) .none kV_isrow dc_isrow pm_isrow an_isrow cd_isrow ct_isrow), sl_isrow⟩)
    (c_isrow : PySem.W.codeIn K cd_isrow "is_row" = true)
    (k_isrow : PySem.W.keepIn K (.ref f_isrow) = true)
    (a_isword : PySem.W.nsIn K mainGlobals "is_word" = some (some (.ref f_isword)))
    (l_isword : K.lookup f_isword = some ⟨oc_isword, od_isword, .func (PySem.W.fnOf "is_word" "is_word" (defArgs s_is_word) (defBody s_is_word) (defScope s_is_word) .none kV_isword dc_isword pm_isword an_isword cd_isword ct_isword), sl_isword⟩)
    (c_isword : PySem.W.codeIn K cd_isword "is_word" = true)
    (k_isword : PySem.W.keepIn K (.ref f_isword) = true)
    (aWD : PySem.W.nsIn K mainGlobals "BadWord" = some (some (.ref C_WD)))
    (oWD : K.lookup C_WD = some (excClassObj nmWD qWD C_WD NWD bsWD bmWD true snWD subWD abWD colWD ddWD k0WD k1WD k2WD k3WD k5WD "ValueError.__new__"))
    (rWD : PySem.HandSPX.refsVE bmWD = true)
    (sWD : PySem.W.findIn K (.ref C_WD) "__setattr__" = some (some (.builtin "object.__setattr__")))
    (bWD : PySem.W.subIn K (.ref C_WD) (.type "BaseException") = some true)
    (tWD : PySem.W.typeIn K (.ref C_WD) = some (.type "type"))
    (kWD : PySem.W.keepIn K (.ref C_WD) = true)
    (gaWD : PySem.W.findIn K (.ref C_WD) "__getattribute__" = some (some (.builtin "BaseException.__getattribute__")))
    (ggWD : PySem.W.findIn K (.ref C_WD) "__getattr__" = some none)
    (hdWD : PySem.W.hasDictIn K C_WD = true)
    (iWD : PySem.W.findIn K (.ref C_WD) "__init__" = some (some (.ref f_WDinit)))
    (tyWD : PySem.W.typeIn K (.ref f_WDinit) = some (.type "function"))
    (noWD : PySem.W.findIn K (.ref C_WD) "word" = some none)
    (icWD : PySem.W.isClsIn K C_WD = true)
    (seWD : PySem.W.subIn K (.ref C_WD) (.ref C_WD) = some true)
    (l_WDinit : K.lookup f_WDinit = some ⟨oc_WDinit, od_WDinit, .func (PySem.W.fnOf "__init__" "BadWord.__init__" (defArgs s_BadWord_init) (defBody s_BadWord_init) (defScope s_BadWord_init) .none kV_WDinit dc_WDinit pm_WDinit an_WDinit cd_WDinit ct_WDinit), sl_WDinit⟩)
    (c_WDinit : PySem.W.codeIn K cd_WDinit "BadWord.__init__" = true)
    (k_WDinit : PySem.W.keepIn K (.ref f_WDinit) = true)
    (aPS : PySem.W.nsIn K mainGlobals "BadPassage" = some (some (.ref C_PS)))
    (oPS : K.lookup C_PS = some (excClassObj nmPS qPS C_PS NPS bsPS bmPS true snPS subPS abPS colPS ddPS k0PS k1PS k2PS k3PS k5PS "ValueError.__new__"))
    (rPS : PySem.HandSPX.refsVE bmPS = true)
    (sPS : PySem.W.findIn K (.ref C_PS) "__setattr__" = some (some (.builtin "object.__setattr__")))
    (bPS : PySem.W.subIn K (.ref C_PS) (.type "BaseException") = some true)
    (tPS : PySem.W.typeIn K (.ref C_PS) = some (.type "type"))
    (kPS : PySem.W.keepIn K (.ref C_PS) = true)
    (gaPS : PySem.W.findIn K (.ref C_PS) "__getattribute__" = some (some (.builtin "BaseException.__getattribute__")))
    (ggPS : PySem.W.findIn K (.ref C_PS) "__getattr__" = some none)
    (hdPS : PySem.W.hasDictIn K C_PS = true)
    (iPS : PySem.W.findIn K (.ref C_PS) "__init__" = some (some (.ref f_PSinit)))
    (tyPS : PySem.W.typeIn K (.ref f_PSinit) = some (.type "function"))
    (noPS : PySem.W.findIn K (.ref C_PS) "index" = some none)
    (icPS : PySem.W.isClsIn K C_PS = true)
    (sePS : PySem.W.subIn K (.ref C_PS) (.ref C_PS) = some true)
    (subPSWD : PySem.W.subIn K (.ref C_PS) (.ref C_WD) = some false)
    (l_PSinit : K.lookup f_PSinit = some ⟨oc_PSinit, od_PSinit, .func (PySem.W.fnOf "__init__" "BadPassage.__init__" (defArgs s_BadPassage_init) (defBody s_BadPassage_init) (defScope s_BadPassage_init) .none kV_PSinit dc_PSinit pm_PSinit an_PSinit cd_PSinit ct_PSinit), sl_PSinit⟩)
    (c_PSinit : PySem.W.codeIn K cd_PSinit "BadPassage.__init__" = true)
    (k_PSinit : PySem.W.keepIn K (.ref f_PSinit) = true)
    (a_wkinit : PySem.W.findIn K (.ref C_Work) "__init__" = some (some (.ref f_wkinit)))
    (i_wkinit : PySem.W.isFn K (.ref f_wkinit) = true)
    (l_wkinit : K.lookup f_wkinit = some ⟨oc_wkinit, od_wkinit, .func (PySem.W.fnOf "__init__" "Work.__init__" (defArgs s_Work_init) (defBody s_Work_init) (defScope s_Work_init) .none kV_wkinit dc_wkinit pm_wkinit an_wkinit cd_wkinit ct_wkinit), sl_wkinit⟩)
    (c_wkinit : PySem.W.codeIn K cd_wkinit "Work.__init__" = true)
    (k_wkinit : PySem.W.keepIn K (.ref f_wkinit) = true)
    (a_wklen : PySem.W.findIn K (.ref C_Work) "__len__" = some (some (.ref f_wklen)))
    (i_wklen : PySem.W.isFn K (.ref f_wklen) = true)
    (l_wklen : K.lookup f_wklen = some ⟨oc_wklen, od_wklen, .func (PySem.W.fnOf "__len__" "Work.__len__" (defArgs s_Work_len) (defBody s_Work_len) (defScope s_Work_len) .none kV_wklen dc_wklen pm_wklen an_wklen cd_wklen ct_wklen), sl_wklen⟩)
    (c_wklen : PySem.W.codeIn K cd_wklen "Work.__len__" = true)
    (k_wklen : PySem.W.keepIn K (.ref f_wklen) = true)
    (a_wkin : PySem.W.findIn K (.ref C_Work) "__contains__" = some (some (.ref f_wkin)))
    (i_wkin : PySem.W.isFn K (.ref f_wkin) = true)
    (l_wkin : K.lookup f_wkin = some ⟨oc_wkin, od_wkin, .func (PySem.W.fnOf "__contains__" "Work.__contains__" (defArgs s_Work_contains) (defBody s_Work_contains) (defScope s_Work_contains) .none kV_wkin dc_wkin pm_wkin an_wkin cd_wkin ct_wkin), sl_wkin⟩)
    (c_wkin : PySem.W.codeIn K cd_wkin "Work.__contains__" = true)
    (k_wkin : PySem.W.keepIn K (.ref f_wkin) = true)
    (a_wkend : PySem.W.findIn K (.ref C_Work) "end_of" = some (some (.ref f_wkend)))
    (i_wkend : PySem.W.isFn K (.ref f_wkend) = true)
    (l_wkend : K.lookup f_wkend = some ⟨oc_wkend, od_wkend, .func (PySem.W.fnOf "end_of" "Work.end_of" (defArgs s_Work_end_of) (defBody s_Work_end_of) (defScope s_Work_end_of) .none kV_wkend dc_wkend pm_wkend an_wkend cd_wkend ct_wkend), sl_wkend⟩)
    (c_wkend : PySem.W.codeIn K cd_wkend "Work.end_of" = true)
    (k_wkend : PySem.W.keepIn K (.ref f_wkend) = true)
    (a_cuts : PySem.W.nsIn K mainGlobals "cuts_behind" = some (some (.ref f_cuts)))
    (l_cuts : K.lookup f_cuts = some ⟨oc_cuts, od_cuts, .func (PySem.W.fnOf "cuts_behind" "cuts_behind" (defArgs s_cuts_behind) (defBody s_cuts_behind) (defScope s_cuts_behind) .none kV_cuts dc_cuts pm_cuts an_cuts cd_cuts ct_cuts), sl_cuts⟩)
    (c_cuts : PySem.W.codeIn K cd_cuts "cuts_behind" = true)
    (k_cuts : PySem.W.keepIn K (.ref f_cuts) = true)
    (a_counts : PySem.W.nsIn K mainGlobals "counts_at" = some (some (.ref f_counts)))
    (l_counts : K.lookup f_counts = some ⟨oc_counts, od_counts, .func (PySem.W.fnOf "counts_at" "counts_at" (defArgs s_counts_at) (defBody s_counts_at) (defScope s_counts_at) .none kV_counts dc_counts pm_counts an_counts cd_counts ct_counts), sl_counts⟩)
    (c_counts : PySem.W.codeIn K cd_counts "counts_at" = true)
    (k_counts : PySem.W.keepIn K (.ref f_counts) = true)
    (a_edinit : PySem.W.findIn K (.ref C_Edition) "__init__" = some (some (.ref f_edinit)))
    (i_edinit : PySem.W.isFn K (.ref f_edinit) = true)
    (l_edinit : K.lookup f_edinit = some ⟨oc_edinit, od_edinit, .func (PySem.W.fnOf "__init__" "Edition.__init__" (defArgs s_Edition_init) (defBody s_Edition_init) (defScope s_Edition_init) .none kV_edinit dc_edinit pm_edinit an_edinit cd_edinit ct_edinit), sl_edinit⟩)
    (c_edinit : PySem.W.codeIn K cd_edinit "Edition.__init__" = true)
    (k_edinit : PySem.W.keepIn K (.ref f_edinit) = true)
    (a_edps : PySem.W.findIn K (.ref C_Edition) "passages" = some (some (.ref f_edps)))
    (i_edps : PySem.W.isFn K (.ref f_edps) = true)
    (l_edps : K.lookup f_edps = some ⟨oc_edps, od_edps, .func (PySem.W.fnOf "passages" "Edition.passages" (defArgs s_Edition_passages) (defBody s_Edition_passages) (defScope s_Edition_passages) .none kV_edps dc_edps pm_edps an_edps cd_edps ct_edps), sl_edps⟩)
    (c_edps : PySem.W.codeIn K cd_edps "Edition.passages" = true)
    (k_edps : PySem.W.keepIn K (.ref f_edps) = true)
    (a_odd : PySem.W.nsIn K mainGlobals "_law_odd" = some (some (.ref f_odd)))
    (l_odd : K.lookup f_odd = some ⟨oc_odd, od_odd, .func (PySem.W.fnOf "_law_odd" "_law_odd" (defArgs s_odd) (defBody s_odd) (defScope s_odd) .none kV_odd dc_odd pm_odd an_odd cd_odd ct_odd), sl_odd⟩)
    (c_odd : PySem.W.codeIn K cd_odd "_law_odd" = true)
    (k_odd : PySem.W.keepIn K (.ref f_odd) = true)
    (a_due : PySem.W.nsIn K mainGlobals "_law_due" = some (some (.ref f_due)))
    (l_due : K.lookup f_due = some ⟨oc_due, od_due, .func (PySem.W.fnOf "_law_due" "_law_due" (defArgs s_due) (defBody s_due) (defScope s_due) .none kV_due dc_due pm_due an_due cd_due ct_due), sl_due⟩)
    (c_due : PySem.W.codeIn K cd_due "_law_due" = true)
    (k_due : PySem.W.keepIn K (.ref f_due) = true)
    (a_tried : PySem.W.nsIn K mainGlobals "_law_tried" = some (some (.ref f_tried)))
    (l_tried : K.lookup f_tried = some ⟨oc_tried, od_tried, .func (PySem.W.fnOf "_law_tried" "_law_tried" (defArgs s_tried) (defBody s_tried) (defScope s_tried) .none kV_tried dc_tried pm_tried an_tried cd_tried ct_tried), sl_tried⟩)
    (c_tried : PySem.W.codeIn K cd_tried "_law_tried" = true)
    (k_tried : PySem.W.keepIn K (.ref f_tried) = true)
    (a_law : PySem.W.nsIn K mainGlobals "law" = some (some (.ref f_law)))
    (l_law : K.lookup f_law = some ⟨oc_law, od_law, .func (PySem.W.fnOf "law" "law" (defArgs s_law) (defBody s_law) (defScope s_law) .none kV_law dc_law pm_law an_law (.ref Z_law) ct_law), sl_law⟩)
    (c_law : PySem.W.codeIn K (.ref Z_law) "law" = true)
    (k_law : PySem.W.keepIn K (.ref f_law) = true)
    (lz_law : K.lookup Z_law = some ⟨oz_law, oy_law, .fields vz_law, sz_law⟩)
    (vz_law : vz_law[11]? = some (.ref Y_law))
    (hz_law : PySem.W.codeHdIn K Z_law Y_law = true)
    (nz_law : K.lookup Y_law = none)
    (tz_law : h.get? Y_law = some (PySem.W.tabObj #[]))
    (g_LETTERS : PySem.W.nsIn K mainGlobals "LETTERS" = some (some (.str "abcdefghijklmnopqrstuvwxyz" tL)))
    (g_LONGEST_WORD : PySem.W.nsIn K mainGlobals "LONGEST_WORD" = some (some (.int 8 tW)))
    (z_len : PySem.W.nsIn K mainGlobals "len" = some none)
    (z_int : PySem.W.nsIn K mainGlobals "int" = some none)
    (z_range : PySem.W.nsIn K mainGlobals "range" = some none)
    (z_enumerate : PySem.W.nsIn K mainGlobals "enumerate" = some none)
    (z_isinstance : PySem.W.nsIn K mainGlobals "isinstance" = some none)
    (z_list : PySem.W.nsIn K mainGlobals "list" = some none)
    (z_tuple : PySem.W.nsIn K mainGlobals "tuple" = some none)
    (z_str : PySem.W.nsIn K mainGlobals "str" = some none)
    (z_bool : PySem.W.nsIn K mainGlobals "bool" = some none)
    (z_all : PySem.W.nsIn K mainGlobals "all" = some none)
    (z_max : PySem.W.nsIn K mainGlobals "max" = some none)
    (z_zip : PySem.W.nsIn K mainGlobals "zip" = some none)
    (z_repr : PySem.W.nsIn K mainGlobals "repr" = some none)
    : LawAtG l w K 12 63 "_law_script" mg fa h := by
  have e := hfa.symm.trans (PySem.W.mg_of X G a_law)
  cases e
  have T : Blt mg := ⟨PySem.W.mg_none_of X G z_len, PySem.W.mg_none_of X G z_int, PySem.W.mg_none_of X G z_range, PySem.W.mg_none_of X G z_enumerate, PySem.W.mg_none_of X G z_isinstance, PySem.W.mg_none_of X G z_list, PySem.W.mg_none_of X G z_tuple, PySem.W.mg_none_of X G z_str, PySem.W.mg_none_of X G z_bool, PySem.W.mg_none_of X G z_all, PySem.W.mg_none_of X G z_max, PySem.W.mg_none_of X G z_zip⟩
  have cl_Work : Cls K C_Work := ⟨pg_Work, hd_Work, po_Work, sa_Work⟩
  have mg_Work := PySem.W.mg_of X G a_Work
  have cl_Edition : Cls K C_Edition := ⟨pg_Edition, hd_Edition, po_Edition, sa_Edition⟩
  have mg_Edition := PySem.W.mg_of X G a_Edition
  have TC : Cst mg tL tW := ⟨PySem.W.mg_of X G g_LETTERS, PySem.W.mg_of X G g_LONGEST_WORD⟩
  have WT : WkTxt K C_Work := ⟨cl_Work, n_Work_name, n_Work_words, n_Work_ends⟩
  have ET : EdTxt K C_Edition := ⟨cl_Edition, n_Edition_work, n_Edition_words, n_Edition_cuts, n_Edition_counts⟩
  have TR : ReprB mg := ⟨PySem.W.mg_none_of X G z_repr⟩
  have TE_WD : ErrF K mg "BadWord" C_WD f_WDinit "word" := ⟨PySem.W.mg_of X G aWD, ⟨⟨_, _, _, _, _, _, _, _, _, _, _, _, _, _, _, oWD, rWD⟩, sWD, bWD, tWD, kWD⟩, ⟨gaWD, ggWD, bWD, hdWD⟩, iWD, tyWD, noWD, icWD, seWD⟩
  have TE_PS : ErrF K mg "BadPassage" C_PS f_PSinit "index" := ⟨PySem.W.mg_of X G aPS, ⟨⟨_, _, _, _, _, _, _, _, _, _, _, _, _, _, _, oPS, rPS⟩, sPS, bPS, tPS, kPS⟩, ⟨gaPS, ggPS, bPS, hdPS⟩, iPS, tyPS, noPS, icPS, sePS⟩
  have F_fresh := fun_mk (st := s_fresh) l_fresh c_fresh k_fresh
  have b_fresh := F_fresh.binds (ps := ["_law_script"]) fun _ _ _ _ _ _ us hl => match us, hl with | [_], _ => rfl
  have F_fill := fun_mk (st := s_fill) l_fill c_fill k_fill
  have b_fill := F_fill.binds (ps := ["_law_state"]) fun _ _ _ _ _ _ us hl => match us, hl with | [_], _ => rfl
  have F_take := fun_mk (st := s_take) l_take c_take k_take
  have b_take := F_take.binds (ps := ["_law_state", "_law_many"]) fun _ _ _ _ _ _ us hl => match us, hl with | [_, _], _ => rfl
  have F_one := fun_mk (st := s_one) l_one c_one k_one
  have b_one := F_one.binds (ps := ["_law_state", "_law_things"]) fun _ _ _ _ _ _ us hl => match us, hl with | [_, _], _ => rfl
  have F_mix := fun_mk (st := s_mix) l_mix c_mix k_mix
  have b_mix := F_mix.binds (ps := ["_law_state", "_law_things"]) fun _ _ _ _ _ _ us hl => match us, hl with | [_, _], _ => rfl
  have F_same := fun_mk (st := s_same) l_same c_same k_same
  have b_same := F_same.binds (ps := ["_law_found", "_law_due_here"]) fun _ _ _ _ _ _ us hl => match us, hl with | [_, _], _ => rfl
  have F_allw := fun_mk (st := s_all_words) l_allw c_allw k_allw
  have b_allw := F_allw.binds (ps := []) fun _ _ _ _ _ _ us hl => match us, hl with | [], _ => rfl
  have F_somew := fun_mk (st := s_some_words) l_somew c_somew k_somew
  have b_somew := F_somew.binds (ps := ["_law_state", "_law_many"]) fun _ _ _ _ _ _ us hl => match us, hl with | [_, _], _ => rfl
  have F_kept := fun_mk (st := s_kept) l_kept c_kept k_kept
  have b_kept := F_kept.binds (ps := ["_law_state", "_law_many"]) fun _ _ _ _ _ _ us hl => match us, hl with | [_, _], _ => rfl
  have F_handed := fun_mk (st := s_handed) l_handed c_handed k_handed
  have b_handed := F_handed.binds (ps := ["_law_state", "_law_things"]) fun _ _ _ _ _ _ us hl => match us, hl with | [_, _], _ => rfl
  have F_isrow := fun_mk (st := s_is_row) l_isrow c_isrow k_isrow
  have b_isrow := F_isrow.binds (ps := ["x"]) fun _ _ _ _ _ _ us hl => match us, hl with | [_], _ => rfl
  have F_isword := fun_mk (st := s_is_word) l_isword c_isword k_isword
  have b_isword := F_isword.binds (ps := ["x"]) fun _ _ _ _ _ _ us hl => match us, hl with | [_], _ => rfl
  have F_WDinit := fun_mk (st := s_BadWord_init) l_WDinit c_WDinit k_WDinit
  have b_WDinit := F_WDinit.binds (ps := ["self", "word"]) fun _ _ _ _ _ _ us hl => match us, hl with | [_, _], _ => rfl
  have F_PSinit := fun_mk (st := s_BadPassage_init) l_PSinit c_PSinit k_PSinit
  have b_PSinit := F_PSinit.binds (ps := ["self", "index"]) fun _ _ _ _ _ _ us hl => match us, hl with | [_, _], _ => rfl
  have F_wkinit := fun_mk (st := s_Work_init) l_wkinit c_wkinit k_wkinit
  have b_wkinit := F_wkinit.binds (ps := ["self", "name", "passages"]) fun _ _ _ _ _ _ us hl => match us, hl with | [_, _, _], _ => rfl
  have F_wklen := fun_mk (st := s_Work_len) l_wklen c_wklen k_wklen
  have b_wklen := F_wklen.binds (ps := ["self"]) fun _ _ _ _ _ _ us hl => match us, hl with | [_], _ => rfl
  have F_wkin := fun_mk (st := s_Work_contains) l_wkin c_wkin k_wkin
  have b_wkin := F_wkin.binds (ps := ["self", "x"]) fun _ _ _ _ _ _ us hl => match us, hl with | [_, _], _ => rfl
  have F_wkend := fun_mk (st := s_Work_end_of) l_wkend c_wkend k_wkend
  have b_wkend := F_wkend.binds (ps := ["self", "word"]) fun _ _ _ _ _ _ us hl => match us, hl with | [_, _], _ => rfl
  have F_cuts := fun_mk (st := s_cuts_behind) l_cuts c_cuts k_cuts
  have b_cuts := F_cuts.binds (ps := ["work", "passages"]) fun _ _ _ _ _ _ us hl => match us, hl with | [_, _], _ => rfl
  have F_counts := fun_mk (st := s_counts_at) l_counts c_counts k_counts
  have b_counts := F_counts.binds (ps := ["cuts", "length"]) fun _ _ _ _ _ _ us hl => match us, hl with | [_, _], _ => rfl
  have F_edinit := fun_mk (st := s_Edition_init) l_edinit c_edinit k_edinit
  have b_edinit := F_edinit.binds (ps := ["self", "work", "passages"]) fun _ _ _ _ _ _ us hl => match us, hl with | [_, _, _], _ => rfl
  have F_edps := fun_mk (st := s_Edition_passages) l_edps c_edps k_edps
  have b_edps := F_edps.binds (ps := ["self"]) fun _ _ _ _ _ _ us hl => match us, hl with | [_], _ => rfl
  have F_odd := fun_mk (st := s_odd) l_odd c_odd k_odd
  have b_odd := F_odd.binds (ps := ["_law_state"]) fun _ _ _ _ _ _ us hl => match us, hl with | [_], _ => rfl
  have F_due := fun_mk (st := s_due) l_due c_due k_due
  have b_due := F_due.binds (ps := ["_law_rows", "_law_things"]) fun _ _ _ _ _ _ us hl => match us, hl with | [_, _], _ => rfl
  have F_tried := fun_mk (st := s_tried) l_tried c_tried k_tried
  have b_tried := F_tried.binds (ps := ["_law_ask"]) fun _ _ _ _ _ _ us hl => match us, hl with | [_], _ => rfl
  have F_law := fun_mk (st := s_law) l_law c_law k_law
  refine ⟨PySem.W.fnOf "law" "law" (defArgs s_law) (defBody s_law) (defScope s_law) .none kV_law dc_law pm_law an_law (.ref Z_law) ct_law, [(Z_law, Y_law)], spLawT K Y_law, ?_, ?_, ?_, fun s v => .of_eq rfl, fun H a ns hl _ hT hS => ⟨a, ns, rfl, hS, hl, hT _ (List.mem_cons_self ..), fun _ => rfl⟩, fun base _ _ hTB => ?_⟩
  · exact List.forall_mem_cons.mpr ⟨tz_law, fun _ h => nomatch h⟩
  · exact List.forall_mem_cons.mpr ⟨nz_law, fun _ h => nomatch h⟩
  · exact List.forall_mem_cons.mpr ⟨PySem.W.codeHd_of_K X hz_law, fun _ h => nomatch h⟩
  have TB_law : LamX.TabB base mg Z_law Y_law := hTB (Z_law, Y_law) (by simp)
  have O_fresh : FnOk l.prog w K mg base CX0 1 f_fresh _ ["_law_script"] (spFresh K) := ok_fresh F_fresh T
  have D_fresh : DefOk l.prog w K mg base 1 "_law_fresh" f_fresh _ ["_law_script"] (spFresh K) := ⟨O_fresh, k_fresh, b_fresh, PySem.W.mg_of X G a_fresh⟩
  have O_fill : FnOk l.prog w K mg base CX0 1 f_fill _ ["_law_state"] spFill := ok_fill F_fill T
  have D_fill : DefOk l.prog w K mg base 1 "_law_fill" f_fill _ ["_law_state"] spFill := ⟨O_fill, k_fill, b_fill, PySem.W.mg_of X G a_fill⟩
  have O_take : FnOk l.prog w K mg base CX0 2 f_take _ ["_law_state", "_law_many"] spTake := ok_take F_take T D_fill
  have D_take : DefOk l.prog w K mg base 2 "_law_take" f_take _ ["_law_state", "_law_many"] spTake := ⟨O_take, k_take, b_take, PySem.W.mg_of X G a_take⟩
  have O_one : FnOk l.prog w K mg base CX0 3 f_one _ ["_law_state", "_law_things"] (spOneA K) := ok_oneA F_one T D_take
  have D_one : DefOk l.prog w K mg base 3 "_law_one" f_one _ ["_law_state", "_law_things"] (spOneA K) := ⟨O_one, k_one, b_one, PySem.W.mg_of X G a_one⟩
  have O_mix : FnOk l.prog w K mg base CX0 3 f_mix _ ["_law_state", "_law_things"] spMixV := ok_mixV F_mix T D_take
  have D_mix : DefOk l.prog w K mg base 3 "_law_mix" f_mix _ ["_law_state", "_law_things"] spMixV := ⟨O_mix, k_mix, b_mix, PySem.W.mg_of X G a_mix⟩
  have O_same : FnOk l.prog w K mg base CX0 4 f_same _ ["_law_found", "_law_due_here"] (spSame 4) := (ok_same (d := 3) F_same T ⟨(ok_same (d := 2) F_same T ⟨(ok_same (d := 1) F_same T ⟨(ok_same (d := 0) F_same T ⟨(ok_none.imp fun _ _ _ _ ⟨_, _, _, h, _⟩ => h.elim), k_same, b_same, PySem.W.mg_of X G a_same⟩), k_same, b_same, PySem.W.mg_of X G a_same⟩), k_same, b_same, PySem.W.mg_of X G a_same⟩), k_same, b_same, PySem.W.mg_of X G a_same⟩)
  have D_same : DefOk l.prog w K mg base 4 "_law_same" f_same _ ["_law_found", "_law_due_here"] (spSame 4) := ⟨O_same, k_same, b_same, PySem.W.mg_of X G a_same⟩
  have O_allw : FnOk l.prog w K mg base CX0 1 f_allw _ [] spAllW := ok_all_words F_allw T
  have D_all_words : DefOk l.prog w K mg base 1 "_law_all_words" f_allw _ [] spAllW := ⟨O_allw, k_allw, b_allw, PySem.W.mg_of X G a_allw⟩
  have O_somew : FnOk l.prog w K mg base CX0 3 f_somew _ ["_law_state", "_law_many"] spSomeWA := ok_some_wordsA F_somew T D_take D_all_words
  have D_some_words : DefOk l.prog w K mg base 3 "_law_some_words" f_somew _ ["_law_state", "_law_many"] spSomeWA := ⟨O_somew, k_somew, b_somew, PySem.W.mg_of X G a_somew⟩
  have O_kept : FnOk l.prog w K mg base CX0 4 f_kept _ ["_law_state", "_law_many"] spKept := ok_kept F_kept T D_take ⟨(ok_one F_one T D_take), k_one, b_one, PySem.W.mg_of X G a_one⟩
  have D_kept : DefOk l.prog w K mg base 4 "_law_kept" f_kept _ ["_law_state", "_law_many"] spKept := ⟨O_kept, k_kept, b_kept, PySem.W.mg_of X G a_kept⟩
  have O_handed : FnOk l.prog w K mg base CX0 3 f_handed _ ["_law_state", "_law_things"] spHanded := ok_handed F_handed T D_take
  have D_handed : DefOk l.prog w K mg base 3 "_law_handed" f_handed _ ["_law_state", "_law_things"] spHanded := ⟨O_handed, k_handed, b_handed, PySem.W.mg_of X G a_handed⟩
  have O_isrow : FnOk l.prog w K mg base CX0 1 f_isrow _ ["x"] spIsRow := ok_is_row F_isrow T
  have D_is_row : DefOk l.prog w K mg base 1 "is_row" f_isrow _ ["x"] spIsRow := ⟨O_isrow, k_isrow, b_isrow, PySem.W.mg_of X G a_isrow⟩
  have D_is_rowA : DefOk l.prog w K mg base 1 "is_row" f_isrow _ ["x"] (spIsRowA K) := ⟨ok_is_rowA F_isrow T, k_isrow, b_isrow, PySem.W.mg_of X G a_isrow⟩
  have O_isword : FnOk l.prog w K mg base CX0 1 f_isword _ ["x"] spIsWord := ok_is_word F_isword T TC
  have D_is_word : DefOk l.prog w K mg base 1 "is_word" f_isword _ ["x"] spIsWord := ⟨O_isword, k_isword, b_isword, PySem.W.mg_of X G a_isword⟩
  have O_WDinit : FnOk l.prog w K mg base CX0 1 f_WDinit _ ["self", "word"] (spErrI C_WD "word") := ok_bad_word F_WDinit TE_WD.T TE_WD.no
  have IE_WD : ErrI l.prog w K mg base C_WD f_WDinit _ "word" := ⟨O_WDinit, b_WDinit⟩
  have O_PSinit : FnOk l.prog w K mg base CX0 1 f_PSinit _ ["self", "index"] (spErrI C_PS "index") := ok_bad_passage F_PSinit TE_PS.T TE_PS.no
  have IE_PS : ErrI l.prog w K mg base C_PS f_PSinit _ "index" := ⟨O_PSinit, b_PSinit⟩
  have O_wkinit : FnOk l.prog w K mg base CX0 2 f_wkinit _ ["self", "name", "passages"] (spWkInit C_Work) := ok_wk_init F_wkinit T WT D_is_word D_is_row
  have K_Work : ClsOk l.prog w K mg base 2 "Work" C_Work f_wkinit _ ["self", "name", "passages"] (spWkInit C_Work) := ⟨O_wkinit, b_wkinit, ⟨mk_Work, a_wkinit, i_wkinit, kc_Work⟩, cl_Work, mg_Work⟩
  have O_wklen : FnOk l.prog w K mg base CX0 1 f_wklen _ ["self"] (spWkLen C_Work) := ok_wk_len F_wklen T WT
  have M_Work_len : MetOk l.prog w K mg base 1 C_Work "__len__" f_wklen _ ["self"] (spWkLen C_Work) := ⟨O_wklen, b_wklen, ⟨a_wklen, i_wklen, k_wklen⟩, cl_Work⟩
  have O_wkin : FnOk l.prog w K mg base CX0 1 f_wkin _ ["self", "x"] (spWkIn C_Work) := ok_wk_in F_wkin T WT
  have M_Work_contains : MetOk l.prog w K mg base 1 C_Work "__contains__" f_wkin _ ["self", "x"] (spWkIn C_Work) := ⟨O_wkin, b_wkin, ⟨a_wkin, i_wkin, k_wkin⟩, cl_Work⟩
  have M_Work_containsA : MetOk l.prog w K mg base 1 C_Work "__contains__" f_wkin _ ["self", "x"] (spWkInA K C_Work) := ⟨ok_wk_inA F_wkin T WT, b_wkin, ⟨a_wkin, i_wkin, k_wkin⟩, cl_Work⟩
  have O_wkend : FnOk l.prog w K mg base CX0 2 f_wkend _ ["self", "word"] (spWkEnd C_Work) := ok_wk_end F_wkend T WT M_Work_contains
  have M_Work_end_of : MetOk l.prog w K mg base 2 C_Work "end_of" f_wkend _ ["self", "word"] (spWkEnd C_Work) := ⟨O_wkend, b_wkend, ⟨a_wkend, i_wkend, k_wkend⟩, cl_Work⟩
  have M_Work_end_ofA : MetOk l.prog w K mg base 2 C_Work "end_of" f_wkend _ ["self", "word"] (spWkEndA K C_Work) := ⟨ok_wk_endA F_wkend T WT M_Work_containsA, b_wkend, ⟨a_wkend, i_wkend, k_wkend⟩, cl_Work⟩
  have O_cuts : FnOk l.prog w K mg base CX0 3 f_cuts _ ["work", "passages"] (spCuts C_Work) := ok_cuts F_cuts T D_is_row M_Work_end_of
  have D_cuts_behind : DefOk l.prog w K mg base 3 "cuts_behind" f_cuts _ ["work", "passages"] (spCuts C_Work) := ⟨O_cuts, k_cuts, b_cuts, PySem.W.mg_of X G a_cuts⟩
  have D_cuts_behindX : DefOkX l.prog w K mg base 3 "cuts_behind" f_cuts _ ["work", "passages"] (spCutsX K C_Work C_PS) := ⟨ok_cutsX F_cuts T TE_PS IE_PS D_is_rowA M_Work_end_ofA, k_cuts, b_cuts, PySem.W.mg_of X G a_cuts⟩
  have O_counts : FnOk l.prog w K mg base CX0 1 f_counts _ ["cuts", "length"] spCounts := ok_counts F_counts T
  have D_counts_at : DefOk l.prog w K mg base 1 "counts_at" f_counts _ ["cuts", "length"] spCounts := ⟨O_counts, k_counts, b_counts, PySem.W.mg_of X G a_counts⟩
  have O_edinit : FnOk l.prog w K mg base CX0 4 f_edinit _ ["self", "work", "passages"] (spEdInit C_Work C_Edition) := ok_ed_init F_edinit T ET D_cuts_behind D_counts_at M_Work_len
  have K_Edition : ClsOk l.prog w K mg base 4 "Edition" C_Edition f_edinit _ ["self", "work", "passages"] (spEdInit C_Work C_Edition) := ⟨O_edinit, b_edinit, ⟨mk_Edition, a_edinit, i_edinit, kc_Edition⟩, cl_Edition, mg_Edition⟩
  have KX_Edition : ClsOkX l.prog w K mg base 4 "Edition" C_Edition f_edinit _ ["self", "work", "passages"] (spEdE K C_Work C_Edition C_PS) := ⟨ok_ed_initE F_edinit T ET D_cuts_behind D_cuts_behindX D_counts_at M_Work_len, b_edinit, ⟨mk_Edition, a_edinit, i_edinit, kc_Edition⟩, cl_Edition, mg_Edition⟩
  have O_edps : FnOk l.prog w K mg base CX0 1 f_edps _ ["self"] (spEdPs C_Work C_Edition) := ok_ed_ps F_edps T ET
  have M_Edition_passages : MetOk l.prog w K mg base 1 C_Edition "passages" f_edps _ ["self"] (spEdPs C_Work C_Edition) := ⟨O_edps, b_edps, ⟨a_edps, i_edps, k_edps⟩, cl_Edition⟩
  have O_odd : FnOk l.prog w K mg base CX0 4 f_odd _ ["_law_state"] spOdd := ok_odd F_odd D_one
  have D_odd : DefOk l.prog w K mg base 4 "_law_odd" f_odd _ ["_law_state"] spOdd := ⟨O_odd, k_odd, b_odd, PySem.W.mg_of X G a_odd⟩
  have O_due : FnOk l.prog w K mg base CX0 1 f_due _ ["_law_rows", "_law_things"] (spDue05 K) := ok_due05 F_due T
  have D_due : DefOk l.prog w K mg base 1 "_law_due" f_due _ ["_law_rows", "_law_things"] (spDue05 K) := ⟨O_due, k_due, b_due, PySem.W.mg_of X G a_due⟩
  exact ok_law F_law rfl T TR F_tried b_tried (PySem.W.mg_of X G a_tried) TE_WD TE_PS subPSWD TB_law D_fresh D_take D_one D_some_words D_handed D_odd D_due D_same D_mix D_kept K_Work KX_Edition M_Edition_passages
theorem walk {l : PySem.W.OpenLaw} {q : Program} {loose : List Str} {XP : (Str → Option Value) → Heap → Prop} {YP : World → Heap → Prop} {d : DefRec} {K : Params → PySem.W.Frag} (hn : l.most = some 63) (hdf : d.params.defaults = [])
    (hY : ∀ (w : World) (h : Heap), YP w h → (K w.params).In h)
    (F : ∀ (w : World) (mg : Str → Option Value) (fa : Addr) (h : Heap), YP w h → (K w.params).In h → h.Ns mainGlobals mg → mg d.name = some (.ref fa) → LawAtG l w (K w.params) 12 63 "_law_script" mg fa h) :
    PySem.W.WalkO q loose XP YP l.row.toRowW d [] (fun f vs => PySem.call f vs) :=
  walk_ofG (n := 63) (k := 12) (x := "_law_script") hn (by decide) hdf ⟨rfl, by decide, by decide⟩ hY F
end Lm

open PySem PySem.W PyProof.Rows
set_option maxRecDepth 100000 in
set_option maxHeartbeats 0 in
theorem PySem.Challenge.cw_leafmarks_k05_editions_refused_holds : PySem.Challenge.rw_leafmarks_k05_editions_refused.Holds := by
  w_on; o_law; k_head; (case hw => w_witness2)
  k_fill
  refine Lm.walk (l := PySem.Challenge.rw_leafmarks_k05_editions_refused) rfl rfl (fun w h Y => PySem.W.km_in_of Y) ?F
  case F =>
    intro w mg fa h YY KX G hmg
    refine' Lm.all_mk KX G hmg ?a_Work ?pg_Work ?hd_Work ?po_Work ?sa_Work ?mk_Work ?kc_Work ?n_Work_name ?n_Work_words ?n_Work_ends ?ha_Work ?hn_Work ?htk_Work ?hm_Work ?a_Edition ?pg_Edition ?hd_Edition ?po_Edition ?sa_Edition ?mk_Edition ?kc_Edition ?n_Edition_work ?n_Edition_words ?n_Edition_cuts ?n_Edition_counts ?ha_Edition ?hm_Edition ?a_fresh ?l_fresh ?c_fresh ?k_fresh ?a_fill ?l_fill ?c_fill ?k_fill ?a_take ?l_take ?c_take ?k_take ?a_one ?l_one ?c_one ?k_one ?a_mix ?l_mix ?c_mix ?k_mix ?a_same ?l_same ?c_same ?k_same ?a_allw ?l_allw ?c_allw ?k_allw ?a_somew ?l_somew ?c_somew ?k_somew ?a_kept ?l_kept ?c_kept ?k_kept ?a_handed ?l_handed ?c_handed ?k_handed ?a_isrow ?l_isrow ?c_isrow ?k_isrow ?a_isword ?l_isword ?c_isword ?k_isword ?aWD ?oWD ?rWD ?sWD ?bWD ?tWD ?kWD ?gaWD ?ggWD ?hdWD ?iWD ?tyWD ?noWD ?icWD ?seWD ?l_WDinit ?c_WDinit ?k_WDinit ?aPS ?oPS ?rPS ?sPS ?bPS ?tPS ?kPS ?gaPS ?ggPS ?hdPS ?iPS ?tyPS ?noPS ?icPS ?sePS ?subPSWD ?l_PSinit ?c_PSinit ?k_PSinit ?a_wkinit ?i_wkinit ?l_wkinit ?c_wkinit ?k_wkinit ?a_wklen ?i_wklen ?l_wklen ?c_wklen ?k_wklen ?a_wkin ?i_wkin ?l_wkin ?c_wkin ?k_wkin ?a_wkend ?i_wkend ?l_wkend ?c_wkend ?k_wkend ?a_cuts ?l_cuts ?c_cuts ?k_cuts ?a_counts ?l_counts ?c_counts ?k_counts ?a_edinit ?i_edinit ?l_edinit ?c_edinit ?k_edinit ?a_edps ?i_edps ?l_edps ?c_edps ?k_edps ?a_odd ?l_odd ?c_odd ?k_odd ?a_due ?l_due ?c_due ?k_due ?a_tried ?l_tried ?c_tried ?k_tried ?a_law ?l_law ?c_law ?k_law ?lz_law ?vz_law ?hz_law ?nz_law ?tz_law ?g_LETTERS ?g_LONGEST_WORD ?z_len ?z_int ?z_range ?z_enumerate ?z_isinstance ?z_list ?z_tuple ?z_str ?z_bool ?z_all ?z_max ?z_zip ?z_repr
    (case a_Work => k_is)
    (case pg_Work => k_is)
    (case hd_Work => k_is)
    (case po_Work => k_is)
    (case sa_Work => k_is)
    (case mk_Work => k_is)
    (case kc_Work => k_is)
    (case n_Work_name => k_is)
    (case n_Work_words => k_is)
    (case n_Work_ends => k_is)
    (case ha_Work => k_is)
    (case hn_Work => k_is)
    (case htk_Work => k_is)
    (case hm_Work => k_is)
    (case a_Edition => k_is)
    (case pg_Edition => k_is)
    (case hd_Edition => k_is)
    (case po_Edition => k_is)
    (case sa_Edition => k_is)
    (case mk_Edition => k_is)
    (case kc_Edition => k_is)
    (case n_Edition_work => k_is)
    (case n_Edition_words => k_is)
    (case n_Edition_cuts => k_is)
    (case n_Edition_counts => k_is)
    (case ha_Edition => k_is)
    (case hm_Edition => k_is)
    (case a_fresh => k_is)
    (case l_fresh => k_is)
    (case c_fresh => k_is)
    (case k_fresh => k_is)
    (case a_fill => k_is)
    (case l_fill => k_is)
    (case c_fill => k_is)
    (case k_fill => k_is)
    (case a_take => k_is)
    (case l_take => k_is)
    (case c_take => k_is)
    (case k_take => k_is)
    (case a_one => k_is)
    (case l_one => k_is)
    (case c_one => k_is)
    (case k_one => k_is)
    (case a_mix => k_is)
    (case l_mix => k_is)
    (case c_mix => k_is)
    (case k_mix => k_is)
    (case a_same => k_is)
    (case l_same => k_is)
    (case c_same => k_is)
    (case k_same => k_is)
    (case a_allw => k_is)
    (case l_allw => k_is)
    (case c_allw => k_is)
    (case k_allw => k_is)
    (case a_somew => k_is)
    (case l_somew => k_is)
    (case c_somew => k_is)
    (case k_somew => k_is)
    (case a_kept => k_is)
    (case l_kept => k_is)
    (case c_kept => k_is)
    (case k_kept => k_is)
    (case a_handed => k_is)
    (case l_handed => k_is)
    (case c_handed => k_is)
    (case k_handed => k_is)
    (case a_isrow => k_is)
    (case l_isrow => k_is)
    (case c_isrow => k_is)
    (case k_isrow => k_is)
    (case a_isword => k_is)
    (case l_isword => k_is)
    (case c_isword => k_is)
    (case k_isword => k_is)
    (case aWD => k_is)
    (case oWD => k_is)
    (case rWD => rfl)
    (case sWD => k_is)
    (case bWD => k_is)
    (case tWD => k_is)
    (case kWD => k_is)
    (case gaWD => k_is)
    (case ggWD => k_is)
    (case hdWD => k_is)
    (case iWD => k_is)
    (case tyWD => k_is)
    (case noWD => k_is)
    (case icWD => k_is)
    (case seWD => k_is)
    (case l_WDinit => k_is)
    (case c_WDinit => k_is)
    (case k_WDinit => k_is)
    (case aPS => k_is)
    (case oPS => k_is)
    (case rPS => rfl)
    (case sPS => k_is)
    (case bPS => k_is)
    (case tPS => k_is)
    (case kPS => k_is)
    (case gaPS => k_is)
    (case ggPS => k_is)
    (case hdPS => k_is)
    (case iPS => k_is)
    (case tyPS => k_is)
    (case noPS => k_is)
    (case icPS => k_is)
    (case sePS => k_is)
    (case subPSWD => k_is)
    (case l_PSinit => k_is)
    (case c_PSinit => k_is)
    (case k_PSinit => k_is)
    (case a_wkinit => k_is)
    (case i_wkinit => k_is)
    (case l_wkinit => k_is)
    (case c_wkinit => k_is)
    (case k_wkinit => k_is)
    (case a_wklen => k_is)
    (case i_wklen => k_is)
    (case l_wklen => k_is)
    (case c_wklen => k_is)
    (case k_wklen => k_is)
    (case a_wkin => k_is)
    (case i_wkin => k_is)
    (case l_wkin => k_is)
    (case c_wkin => k_is)
    (case k_wkin => k_is)
    (case a_wkend => k_is)
    (case i_wkend => k_is)
    (case l_wkend => k_is)
    (case c_wkend => k_is)
    (case k_wkend => k_is)
    (case a_cuts => k_is)
    (case l_cuts => k_is)
    (case c_cuts => k_is)
    (case k_cuts => k_is)
    (case a_counts => k_is)
    (case l_counts => k_is)
    (case c_counts => k_is)
    (case k_counts => k_is)
    (case a_edinit => k_is)
    (case i_edinit => k_is)
    (case l_edinit => k_is)
    (case c_edinit => k_is)
    (case k_edinit => k_is)
    (case a_edps => k_is)
    (case i_edps => k_is)
    (case l_edps => k_is)
    (case c_edps => k_is)
    (case k_edps => k_is)
    (case a_odd => k_is)
    (case l_odd => k_is)
    (case c_odd => k_is)
    (case k_odd => k_is)
    (case a_due => k_is)
    (case l_due => k_is)
    (case c_due => k_is)
    (case k_due => k_is)
    (case a_tried => k_is)
    (case l_tried => k_is)
    (case c_tried => k_is)
    (case k_tried => k_is)
    (case a_law => k_is)
    (case l_law => k_is)
    (case c_law => k_is)
    (case k_law => k_is)
    (case lz_law => k_is)
    (case vz_law => rfl)
    (case hz_law => kernel_rfl)
    (case nz_law => first | k_is | kernel_rfl)
    (case tz_law => exact PySem.W.km_tabs_of YY _ (by k_mem))
    (case g_LETTERS => k_is)
    (case g_LONGEST_WORD => k_is)
    (case z_len => k_is)
    (case z_int => k_is)
    (case z_range => k_is)
    (case z_enumerate => k_is)
    (case z_isinstance => k_is)
    (case z_list => k_is)
    (case z_tuple => k_is)
    (case z_str => k_is)
    (case z_bool => k_is)
    (case z_all => k_is)
    (case z_max => k_is)
    (case z_zip => k_is)
    (case z_repr => k_is)
