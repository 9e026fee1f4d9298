import PyProof.Rows.All
import Wide.All
import OpenK.AllK
import Wide.FinOn
import PyProof.EqKinds
import HandS.ForMost
import HandS.IsInst
import HandS.OwnEq
import PyProof.InstNe
import PyProof.Draws
import KE.GoesEnum
import KE.GoesMore
import KE.KOpsOwn
import HandS.Walk
import HandS.Conv
import HandS.Evl
import HandS.Zip
import HandS.Property
import HandS.MakeKwOnly
import HandS.Style
import HandS.WordsExc
import HandS.ExcOwn
import HandS.TryOnly
import HandS.TupMul
import HandS.ExcInit
import HandS.ExcField
import HandS.DictComp
import KE.KCallOwn
import HandS.Lambda
import HandS.EndTab
import KE.KNestM
import PySem.Challenge.RW_leafmarks_k06_editions_joined
set_option Elab.async false
set_option linter.all false
set_option maxRecDepth 100000
set_option maxHeartbeats 16000000
namespace Lm
open PySem L2
section
variable {X : Cx} {CX : CXT} {k : Nat} {f C : Addr} {fd : FuncData} {ps : List Str} {sp : Sp} {E : XK} {pins : List (Addr × Obj)} {σ : St} {H : Hp} {s : Shared}
/-- the callee runs under another around of the same frames -/
theorem run_in {A : Around} {Q : VK} {us : List Value} {vs : List V} (F : FnOk X.prog X.w X.K X.mg X.base CX k f fd ps sp) (hr : Room k A) (e0 : Env0 X.prog X.w X.K X.mg X.base A X.stack s H) (hb : Binds X.K fd ps [])
    (hx : Passes CX X E) (I : Inv X pins σ H s) (r : Vals vs us) (h : sp vs H Q E) : wpAny (model X.prog X.w) A (call (.ref f) us) (EP X pins σ Q) X.xe s := by
  have hl : us.length = ps.length := by rw [← r.length]; exact F.len _ _ _ _ h
  have hb' : BindsTo s fd ⟨us, []⟩ (ps.zip us) := by
    have := hb s us I.kIn (by simpa using hl)
    simpa using this
  refine wpAny_call (codeAny_mono (F.run A X.stack s H ⟨us, []⟩ us vs Q E hr e0 hb' r h) fun r s' hq => ?_)
  cases r with
  | error e => exact hx pins σ H s e s' I hq
  | ok fl =>
    cases fl with
    | ret u => exact I.after hq
    | next => exact False.elim hq
    | brk => exact False.elim hq
    | cont => exact False.elim hq
/-- len(x), x an instance with its own __len__ -/
def rLenOwn (C : Addr) (sp : Sp) (E : XK) : List V → Hp → VK → Prop := fun xs H Q => ∃ a dx fs, xs = [.ref a] ∧ H a = some (.ins C dx fs) ∧
  sp [.ref a] H (fun z H' => ∃ n : Nat, z = .int n ∧ n < 2 ^ 62 ∧ Q (.int n) H') E
theorem call_lenOwn (F : FnOk X.prog X.w X.K X.mg X.base CX k f fd ps sp) (hs : PySem.W.findIn X.K (.ref C) "__len__" = some (some (.ref f))) (hf : PySem.W.isFn X.K (.ref f) = true) (hb : Binds X.K fd ps []) (hr : Room (k + 1) X.A) (hx : Passes CX X E) :
    CallR X (.builtin "len") (rLenOwn C sp E) := by
  intro pins s σ H xs us Q I r h
  obtain ⟨a, dx, fs, rfl, ha, q⟩ := h
  obtain ⟨u, rfl, ru⟩ := r.one
  cases (show u = Value.ref a from ru)
  obtain ⟨mA, J, _⟩ := ins_get I.hok ha
  obtain ⟨od, J, _⟩ := J.look
  obtain ⟨m, hF⟩ := I.fr
  refine PySem.W.len_K hF I.ok.mod.kin J hs hf (wpAny_mono (run_in (us := [.ref a]) (vs := [.ref a]) F hr.in1 I.env0.in1 hb hx I (.cons rfl .nil) q) (fun w s' z => ?_) fun _ _ x => x)
  obtain ⟨z', H', I', rz, n, ez, hn, qz⟩ := z
  subst ez
  obtain ⟨t, e⟩ := (show ∃ t, w = Value.int n t from rz)
  subst e
  refine ⟨⟨by omega, by omega⟩, .int n, H', I'.tok _, ⟨_, rfl⟩, qz⟩
/-- x in y, y an instance with its own __contains__ -/
def rInOwn (C : Addr) (sp : Sp) (E : XK) (neg : Bool) : R2 := fun x y H Q => ∃ a dx fs, y = .ref a ∧ H a = some (.ins C dx fs) ∧
  sp [y, x] H (fun z H' => ∃ b : Bool, z = .bl b ∧ Q (.bl (if neg then !b else b)) H') E
theorem op_inOwn (F : FnOk X.prog X.w X.K X.mg X.base CX k f fd ps sp) (hs : PySem.W.findIn X.K (.ref C) "__contains__" = some (some (.ref f))) (hf : PySem.W.isFn X.K (.ref f) = true) (hb : Binds X.K fd ps []) (hr : Room k X.A) (hx : Passes CX X E) :
    OpR X (compareOp .In) (rInOwn C sp E false) := by
  intro pins s σ H x y v u Q I rx ry h
  obtain ⟨a, dx, fs, rfl, ha, q⟩ := h
  cases (show u = Value.ref a from ry)
  obtain ⟨mA, J, _⟩ := ins_get I.hok ha
  obtain ⟨od, J, _⟩ := J.look
  obtain ⟨m, hF⟩ := I.fr
  refine PySem.W.in_K hF I.ok.mod.kin J hs hf (wpAny_mono (run_in (us := [.ref a, v]) (vs := [.ref a, x]) F hr I.env0 hb hx I (.cons rfl (.cons rx .nil)) q) (fun w s' z => ?_) fun _ _ x => x)
  obtain ⟨z', H', I', rz, b, ez, qz⟩ := z
  subst ez
  cases (show w = Value.bool b from rz)
  exact wpAny_truthy_bool ⟨.bl _, H', I', rfl, qz⟩
theorem op_notInOwn (F : FnOk X.prog X.w X.K X.mg X.base CX k f fd ps sp) (hs : PySem.W.findIn X.K (.ref C) "__contains__" = some (some (.ref f))) (hf : PySem.W.isFn X.K (.ref f) = true) (hb : Binds X.K fd ps []) (hr : Room k X.A) (hx : Passes CX X E) :
    OpR X (compareOp .NotIn) (rInOwn C sp E true) := by
  intro pins s σ H x y v u Q I rx ry h
  obtain ⟨a, dx, fs, rfl, ha, q⟩ := h
  cases (show u = Value.ref a from ry)
  obtain ⟨mA, J, _⟩ := ins_get I.hok ha
  obtain ⟨od, J, _⟩ := J.look
  obtain ⟨m, hF⟩ := I.fr
  refine PySem.W.notIn_K hF I.ok.mod.kin J hs hf (wpAny_mono (run_in (us := [.ref a, v]) (vs := [.ref a, x]) F hr I.env0 hb hx I (.cons rfl (.cons rx .nil)) q) (fun w s' z => ?_) fun _ _ x => x)
  obtain ⟨z', H', I', rz, b, ez, qz⟩ := z
  subst ez
  cases (show w = Value.bool b from rz)
  exact wpAny_truthy_bool ⟨.bl _, H', I', rfl, qz⟩
theorem cmpBack {P : Value → Shared → Prop} {z : V} {v : Value} {s' : Shared} (r : RelV z v) (h : P v s') : PySem.W.CmpBack P v s' := by
  cases z with
  | non => cases (show v = Value.none from r); exact h
  | bl b => cases (show v = Value.bool b from r); exact h
  | int i => obtain ⟨t, e⟩ := (show ∃ t, v = Value.int i t from r); cases e; exact h
  | str i => obtain ⟨t, e⟩ := (show ∃ t, v = Value.str i t from r); cases e; exact h
  | byt i => obtain ⟨t, e⟩ := (show ∃ t, v = Value.bytes i t from r); cases e; exact h
  | flt i => obtain ⟨t, e⟩ := (show ∃ t, v = Value.float i t from r); cases e; exact h
  | ref a => cases (show v = Value.ref a from r); exact h
  | ty n => cases (show v = Value.type n from r); exact h
/-- x op y, both instances of the class at C that has its own def for it -/
def rBinOwn (C : Addr) (sp : Sp) (E : XK) : R2 := fun x y H Q => ∃ a dx fs b dy gs, x = .ref a ∧ y = .ref b ∧ H a = some (.ins C dx fs) ∧ H b = some (.ins C dy gs) ∧ sp [x, y] H Q E
theorem op_binOwn {op : Operator} (F : FnOk X.prog X.w X.K X.mg X.base CX k f fd ps sp) (hc : PySem.W.selfFirst X.K C = true) (hs : PySem.W.findIn X.K (.ref C) (PySem.dunder op.info.2) = some (some (.ref f))) (hf : PySem.W.isFn X.K (.ref f) = true) (hb : Binds X.K fd ps []) (hr : Room k X.A) (hx : Passes CX X E) :
    OpR X (binaryOp op) (rBinOwn C sp E) := by
  intro pins s σ H x y v u Q I rx ry h
  obtain ⟨a, dx, fs, b, dy, gs, rfl, rfl, ha, hb', q⟩ := h
  cases (show v = Value.ref a from rx)
  cases (show u = Value.ref b from ry)
  obtain ⟨mA, J, _⟩ := ins_get I.hok ha
  obtain ⟨mB, J', _⟩ := ins_get I.hok hb'
  obtain ⟨od, J, _⟩ := J.look
  obtain ⟨od', J', _⟩ := J'.look
  obtain ⟨m, hF⟩ := I.fr
  refine PySem.W.binop_K hF I.ok.mod.kin J J'.type hc hs hf (wpAny_mono (run_in (us := [.ref a, .ref b]) (vs := [.ref a, .ref b]) F hr I.env0 hb hx I (.cons rfl (.cons rfl .nil)) q) (fun w s' z => ?_) fun _ _ x => x)
  obtain ⟨z', H', I', rz, qz⟩ := z
  exact cmpBack rz ⟨z', H', I', rz, qz⟩
theorem op_cmpOwn {op : CmpOp} (hop : ∀ a b, compareOp op a b = richCompare op a b) (F : FnOk X.prog X.w X.K X.mg X.base CX k f fd ps sp) (hs : PySem.W.findIn X.K (.ref C) (cmpInfo op).2.1 = some (some (.ref f))) (hf : PySem.W.isFn X.K (.ref f) = true) (hb : Binds X.K fd ps []) (hr : Room k X.A) (hx : Passes CX X E) :
    OpR X (compareOp op) (rBinOwn C sp E) := by
  intro pins s σ H x y v u Q I rx ry h
  obtain ⟨a, dx, fs, b, dy, gs, rfl, rfl, ha, hb', q⟩ := h
  cases (show v = Value.ref a from rx)
  cases (show u = Value.ref b from ry)
  obtain ⟨mA, J, _⟩ := ins_get I.hok ha
  obtain ⟨mB, J', _⟩ := ins_get I.hok hb'
  obtain ⟨od, J, _⟩ := J.look
  obtain ⟨od', J', _⟩ := J'.look
  obtain ⟨m, hF⟩ := I.fr
  rw [hop]
  refine PySem.W.cmp_K (op := op) (tb := .ref C) hr.units0 hF I.ok.mod.kin J J'.type (by simp [PySem.W.notFirst]) hs hf (wpAny_mono (run_in (us := [.ref a, .ref b]) (vs := [.ref a, .ref b]) F hr I.env0 hb hx I (.cons rfl (.cons rfl .nil)) q) (fun w s' z => ?_) fun _ _ x => x)
  obtain ⟨z', H', I', rz, qz⟩ := z
  exact cmpBack rz ⟨z', H', I', rz, qz⟩
end
end Lm

namespace Lm
open PySem PySem.W PySem.Calls PyProof.Rows
section
variable {prog : Program} {w : World} {A : Around} {E : Value → Shared → Prop} {s : Shared} {K : Frag} {x C L f : Addr} {h₀ : Heap} {m : Str → Option Value} {ox : Obj} {od : Option Obj} {b tb : Value}
/-- != of an instance whose class has an own == and no own != -/
theorem ne_own {Q : Value → Shared → Prop} (hu : A.units + 1 < cLine) (Fr' : Fr h₀ L s.heap m) (X₀ : K.In h₀) (I : InstAt s.heap x ox C od) (hb : Looks (model prog w) s.heap (typeOf b) tb) (hn : notFirst K C tb = true)
    (hne : findIn K (.ref C) "__ne__" = some (some (.builtin "object.__ne__"))) (hobj : subIn K (.ref C) (.type "object") = some true)
    (hs : findIn K (.ref C) "__eq__" = some (some (.ref f))) (hf : isFn K (.ref f) = true)
    (h : wpAny (model prog w) A.in1 (call (.ref f) [.ref x, b]) (fun v s' => ∃ k, v = .bool k ∧ Q (.bool (!k)) s') E s) : wpAny (model prog w) A (richCompare .NotEq (.ref x) b) Q E s := by
  have X := X₀.keeps Fr'.keep
  have fin : ∀ (Q' : Option Value → Shared → Prop), (∀ k s', Q (.bool (!k)) s' → Q' (some (.bool (!k))) s') →
      wpAny (model prog w) A (call (.builtin "object.__ne__") ([.ref x] ++ [b]) >>= fun v => pure (some v)) Q' E s := by
    intro Q' hQ
    refine wpAny_bind (wpAny_call (codeAny_call_builtin PySem.F.cmp_object.ne.plain PySem.F.cmpEntry_ne ?_))
    refine @check_slot (model prog w) _ _ _ "object.__ne__" "object" "__ne__" (.ref x) [b] [] _ PySem.F.cmpKind_ne PySem.F.cmpSplit_ne (I.type.andThen (looks_subIn X hobj)) (PySem.F.cmpArgs_ne _ _) ?_
    unfold Builtin.«object.__ne__»
    repeat (first
      | with_reducible refine wpAny_cRoomFor hu ?_
      | (refine wpAny_bind (m := callSpecialIfBound? (.ref x) (Str.ofString "__eq__") [b])
          (ifBound_K X I hs hf (wpAny_mono h (fun r s' hr => by
            obtain ⟨k, rfl, hq⟩ := hr
            repeat (first | exact ⟨_, rfl, wpAny_pure (hQ k s' hq)⟩ | exact wpAny_pure (hQ k s' hq) | exact hQ k s' hq | exact wpAny_truthy_bool (hQ k s' hq) | (refine wpAny_bind (m := truthy (.bool _)) (wpAny_truthy_bool ?_)) | wp_step)) fun _ _ e => e)))
      | wp_step)
  have one : wpAny (model prog w) A (tryCompare (.ref x) "__ne__" b) (fun r s' => ∃ v, r = some v ∧ Q v s') E s := by
    simp only [tryCompare]
    refine wpAny_bind ?_
    simp only [callSpecialIfBound?, bindSpecialIfBound?]
    refine wpAny_holding (wpAny_bind (wpAny_bind (wpAny_bind (I.type.here ((looks_findIn X hne).here ?_)))))
    refine wpAny_bind (wpAny_askSetting (wpAny_ite ?_))
    split
    · refine wpAny_bind ?_
      rw [PySem.F.cmp_object.ne.bind]
      refine wpAny_pure (wpAny_pure ?_)
      show wpAny _ _ (call _ _ >>= fun v => pure (some v)) _ _ _
      exact fin _ fun k s' q => wpAny_pure ⟨_, rfl, q⟩
    · refine wpAny_tryCatch (wpAny_bind ?_)
      rw [PySem.F.cmp_object.ne.bind]
      refine wpAny_pure (wpAny_pure ?_)
      show wpAny _ _ (call _ _ >>= fun v => pure (some v)) _ _ _
      exact fin _ fun k s' q => wpAny_pure ⟨_, rfl, q⟩
  unfold richCompare
  simp only [oneThing_ref]
  refine wpAny_holding (wpAny_bind (wpAny_cRoomFor (Nat.lt_of_succ_lt hu) ?_))
  refine wpAny_bind (I.type.here (wpAny_bind (hb.here ?_)))
  split
  · rename_i q
    have e : subIn K tb (.ref C) = some false := by
      rcases Bool.or_eq_true_iff.mp hn with e | e
      · rw [beq_iff_eq.mp e] at q; simp at q
      · exact beq_iff_eq.mp e
    refine wpAny_bind ((looks_subIn X e).here ?_)
    simp only [Bool.false_eq_true, if_false]
    refine wpAny_bind (wpAny_mono one (fun r s' z => ?_) fun _ _ e => e)
    obtain ⟨v, rfl, hq⟩ := z
    exact wpAny_pure hq
  · refine wpAny_bind (wpAny_pure ?_)
    simp only [Bool.false_eq_true, if_false]
    refine wpAny_bind (wpAny_mono one (fun r s' z => ?_) fun _ _ e => e)
    obtain ⟨v, rfl, hq⟩ := z
    exact wpAny_pure hq
end
end Lm

namespace Lm
open PySem PySem.W PySem.Calls PyProof.Rows Builtin
theorem meets_enum1 {v : Value} {o : Obj} {H : Heap → Prop} (B : Begins v o H) :
    Meets (Builtin.«enumerate.__new__» ⟨[.type "enumerate", v], []⟩) (fun _ R s => H s.heap ∧
      R (.ok (.ret (.ref (s.heap.push o).objs.size))) { s with heap := (s.heap.push o).push { cls := .type "enumerate", data := .fields #[.none, .bool false, .ref s.heap.objs.size, rawInt 0, .none, .none] } }) :=
  .of_wp fun prog w A R s ⟨h1, h⟩ => by
    obtain ⟨hp, g, d, tk, os⟩ := s
    have hsub := sub_enumerate
    have q1 : ∀ {A' : Around} {E : Value → Shared → Prop} {Q : Value → Shared → Prop}, Q (.ref hp.objs.size) ⟨hp.push o, g, d, tk, os⟩ → wpAny (model prog w) A' (pyIter v) Q E ⟨hp, g, d, tk, os⟩ :=
      fun q => B.iter prog w _ _ ⟨hp, g, d, tk, os⟩ _ h1 q
    wp_walk using q1
    refine wpAny_stack_any fun st => wpAny_pure ?_
    split
    · rename_i c _ _ _ _ _
      cases (c == Value.type "enumerate")
      · wp_walk using q1
        exact ⟨_, rfl, h⟩
      · wp_walk using q1
        exact ⟨_, rfl, h⟩
    · wp_walk using q1
      exact ⟨_, rfl, h⟩
section
variable {prog : Program} {w : World} {A : Around} {E : Value → Shared → Prop} {s : Shared}
theorem call_enum1 {v : Value} {o : Obj} {H : Heap → Prop} {Q : Value → Shared → Prop} (B : Begins v o H) (h1 : H s.heap)
    (h : ∀ h', IsEnum h' (s.heap.objs.size + 1) s.heap.objs.size 0 .none → h'.get? s.heap.objs.size = some o → h'.objs.size = s.heap.objs.size + 2 →
      (∀ b o, s.heap.get? b = some o → h'.get? b = some o) → Q (.ref (s.heap.objs.size + 1)) { s with heap := h' }) :
    wpAny (model prog w) A (call (.type "enumerate") [v]) Q E s := by
  refine callType_new F.called_enumerate (by decide) (F.typeCall_enumerate_1 _) (F.newCall_enumerate_1 _) (fun obj => F.args_object_init_2 obj _) F.entry_enumerate_new
    (meets_enum1 B) ⟨h1, ?_⟩
  have hz : (s.heap.push o).objs.size = s.heap.objs.size + 1 := Heap.size_push ..
  show _ ∧ _
  rw [hz]
  have he : IsEnum ((s.heap.push o).push { cls := .type "enumerate", data := .fields #[.none, .bool false, .ref s.heap.objs.size, rawInt 0, .none, .none] }) (s.heap.objs.size + 1) s.heap.objs.size 0 .none := by
    have := Heap.get?_push_size (s.heap.push o) (o := { cls := .type "enumerate", data := .fields #[.none, .bool false, .ref s.heap.objs.size, rawInt 0, .none, .none] }) rfl
    rw [hz] at this; exact this
  refine ⟨⟨_, he, rfl⟩, h _ he (Heap.get?_push_of_some _ (Heap.get?_push_size _ B.free)) (by rw [Heap.size_push, hz]) fun b o x => Heap.get?_push_of_some _ (Heap.get?_push_of_some _ x)⟩
end
end Lm
namespace Lm
open PySem L2 PyProof.Rows PySem.Spec
open PySem.F in
theorem pyNext_enumT_end {prog : Program} {w : World} {A : Around} {E : Value → Shared → Prop} {s : Shared} {e it l : Addr} {i : Nat} {items : Array Value} {old : Value} {Q : Option Value → Shared → Prop} (hh : A.handled = none)
    (he : IsEnum s.heap e it i old) (hit : s.heap.IsTupleIter it l i) (hl : s.heap.IsTuple l items) (hx : items[i]? = none)
    (hQ : ∀ h', Heap.ExtBut it s.heap h' → Q none { s with heap := h' }) : wpAny (model prog w) A (pyNext (.ref e)) Q E s := by
  have hT : s.TypeIs (.ref e) "enumerate" := ⟨_, he, rfl⟩
  unfold pyNext
  refine wpAny_bind (wpAny_attempt (wpAny_callSpecial?_slot (name := Str.ofString "__next__") hT F.slot_enumerate_next
    (wpAny_call_entry F.slot_enumerate_next hT F.entry_enumerate_next ?_ (F.args_enumerate_next_1 _))))
  show wpAny _ _ (field (.ref e) 2 >>= _) _ _ _
  refine wpAny_bind (wpAny_field he rfl (x := .ref it) rfl ?_)
  refine wpAny_bind (wpAny_nextOf_tuple_end (A := A.in1) hh hit hl hx fun h' x he' hx' => ?_)
  obtain ⟨o, ho, hc⟩ := hx'
  refine wpAny_bind (wpAny_isInstance (T := "StopIteration") (b := true) ⟨o, ho, hc⟩ isSubtype_stop ?_)
  exact wpAny_pure (hQ _ he')
/-- the tuple at a as it stands, each item in a new pair -/
def IteT (K : PySem.W.Frag) (a : Addr) : It :=
  ⟨fun i H => ∃ (xs : List V) (x : V), SqT K H a xs ∧ xs[i]? = some x, fun i H v H' => ∃ T x, v = .ref T ∧ H T = none ∧ H' = upd H T (.tup [.int (i : Nat), x]) ∧ ∀ xs, SqT K H a xs → xs[i]? = some x, fun i H => ∃ xs : List V, SqT K H a xs ∧ xs.length ≤ i⟩
theorem turn_enumT {P : Program} {w : World} {K : PySem.W.Frag} {elts : List Expr} {kk : Nat} {tpos : Pos} (a e it : Addr) (hai : a ≠ it) (hea : e ≠ a) :
    Turn P w K (.Tuple elts kk tpos) (IteT K a) [e, it] e (fun i h => (∃ old, IsEnum h e it ((i : Nat) : Int) old) ∧ h.IsTupleIter it a i ∧ e ≠ it) where
  mem := by simp
  obj := fun i h st b hb => by
    obtain ⟨⟨old, he⟩, ⟨o, ho, hc, hd⟩, _⟩ := st
    have e' : b = e ∨ b = it := by simpa using hb
    rcases e' with z | z
    · rw [z]; exact ⟨_, he, fun v q => nomatch q⟩
    · rw [z]; exact ⟨o, ho, fun v q => by rw [hd] at q; cases q⟩
  keep := fun i h h' st k => let ⟨⟨old, he⟩, hi, hne⟩ := st; ⟨⟨old, k e (by simp) _ he⟩, hi.at fun o q => k it (by simp) o q, hne⟩
  item := by
    intro X hP hw hK hc i pins s σ H E I hf st hg
    subst hP hw hK
    obtain ⟨⟨old, he⟩, hit, hne⟩ := st
    obtain ⟨xs, x, hq, hx⟩ := hg
    obtain ⟨its, rv, p, hz⟩ := I.tuple hq
    obtain ⟨u, hu, ru⟩ := rv.get hx
    have hel : e < s.heap.objs.size := Heap.lt_size he
    have hil : it < s.heap.objs.size := by obtain ⟨_, q, _⟩ := hit; exact Heap.lt_size q
    have hi : i < its.toArray.size := by
      have := (List.getElem?_eq_some_iff.mp hu).1
      simpa using this
    refine wpAny_pyNext_enum_itemD (Draws.tuple (A := X.A.in1) (I.ok.hd hc) it a hai its.toArray) he ⟨hit, p⟩ hi hne (by simp [hne, hea]) fun x' h' tk hx' ho hst' hT hsz hk => ?_
    have hit' := hst'.1
    have ex' : x' = u := by
      have : its[i]? = some x' := by simpa using hx'
      rw [hu] at this; exact (Option.some.inj this).symm
    subst ex'
    refine ⟨_, rfl, wpAny_letOwnedTupleGo_enum (s := { s with heap := h', toks := tk + 1 }) ho fun h'' he' sb => ?_⟩
    have hT2 : h''.get? s.heap.objs.size = some { cls := .type "tuple", data := .seq #[.int i tk, x'] } := (sb.2 _ (Nat.ne_of_gt hel)).trans hT
    have new : ObjOk X.prog X.w (upd H s.heap.objs.size (.tup [.int (i : Nat), x])) h'' s.heap.objs.size (.tup [.int (i : Nat), x]) :=
      ⟨by show 2 ≤ sizeLine; decide, [.int i tk, x'], .cons ⟨_, rfl⟩ (.cons ru .nil), ⟨_, hT2, rfl, _, rfl⟩⟩
    have I1 : Inv X pins σ (upd H s.heap.objs.size (.tup [.int (i : Nat), x])) { s with heap := h'', toks := tk + 1 } :=
      I.turnedNew (ch := [e, it]) (fun b ob hb q => (sb.2 b (fun z => hb (by simp [z]))).trans (hk b ob (fun z => hb (by simp [z])) (fun z => hb (by simp [z])) q)) hf (Nat.le_refl _) new
    refine ⟨.ref s.heap.objs.size, _, I1, rfl, ⟨_, x, rfl, I.hok.fresh (Nat.le_refl _), rfl, fun ys hy => by rw [I.tuple_inj hy hq]; exact hx⟩, ⟨⟨x', ?_⟩, hit'.at fun o q => (sb.2 it (Ne.symm hne)).trans q, hne⟩, fun b hb => ?_⟩
    · have e1 : ((i + 1 : Nat) : Int) = (i : Int) + 1 := by omega
      rw [e1]; exact he'
    · have hb' : b < s.heap.objs.size := by
        have e' : b = e ∨ b = it := by simpa using hb
        rcases e' with z | z
        · rw [z]; exact hel
        · rw [z]; exact hil
      rw [upd_ne (Nat.ne_of_lt hb')]
      exact (hf b hb).1
  done := by
    intro X hP hw hK hc i pins s σ H E I hf st hg
    subst hP hw hK
    obtain ⟨⟨old, he⟩, hit, hne⟩ := st
    obtain ⟨xs, hq, hx⟩ := hg
    obtain ⟨its, rv, p, hz⟩ := I.tuple hq
    obtain ⟨f0, f1, f2, f3, f4, f5⟩ := hf it (by simp)
    have hl := rv.length
    exact pyNext_enumT_end (I.ok.hd hc) he hit p (by simp; omega) fun h' eb => ⟨rfl, I.turned (t' := s.toks) (fun b o hb q => eb b o hb q) f0 f1 f3 f4 f5⟩
  self := fun A i s Q E st h => let ⟨⟨_, he⟩, _⟩ := st; wpAny_pyIter_enum he h
def iEnumA (K : PySem.W.Frag) (ta : TA) : TI := fun σ H R => ta σ H fun vs H1 => ∃ a xs, vs = [.ref a] ∧ ((SqL K H1 a xs ∧ R (Ite K a) H1) ∨ (SqT K H1 a xs ∧ R (IteT K a) H1))
theorem pi_enumA {X : Cx} {e : Expr} {ta : TA} {p pos tpos : Pos} {elts : List Expr} {kk : Nat} (hg : Gl X "enumerate") (hm : X.mg "enumerate" = none) (ha : PA X [e] ta) (hs : starEach [e] X.env = [(false, eval e X.env)] := by rfl) :
    PI X (.Tuple elts kk tpos) (.Call (.Name "enumerate" p) [e] [] pos) (iEnumA X.K ta) := by
  refine ⟨fun pins s σ H R I h => ?_⟩
  refine Call_ (ld_blt I hg hm boot_enumerate (PyProof.Rows.callWith_type1 (thn (ha.run pos pins s σ H _ I h) fun us s1 ⟨vs, H1, I1, r1, q1⟩ => ?_) hs rfl))
  obtain ⟨a, xs, ex, q1⟩ := q1
  subst ex
  cases r1 with
  | cons r rr =>
    cases rr
    cases r
    have fresh2 : ∀ b, b ∈ [s1.heap.objs.size + 1, s1.heap.objs.size] → FpOk X pins H1 b := fun b hb => by
      have e' : b = s1.heap.objs.size + 1 ∨ b = s1.heap.objs.size := by simpa using hb
      have hle : s1.heap.objs.size ≤ b := by
        rcases e' with z | z
        · rw [z]; exact Nat.le_add_right _ _
        · rw [z]; exact Nat.le_refl _
      exact I1.fpOk hle (I1.hok.fresh hle)
    rcases q1 with ⟨hq, q⟩ | ⟨hq, q⟩
    · obtain ⟨its, rv, p', hz⟩ := I1.list hq
      refine call_enumerate_list p'.isList fun h' he hit hsz hk => wpAny_pyIter_enum he ?_
      have I2 : Inv X pins σ H1 { s1 with heap := h' } := I1.kept (t' := s1.toks) hk
      exact ⟨s1.heap.objs.size + 1, [s1.heap.objs.size + 1, s1.heap.objs.size], _, _, H1, rfl, I2, turn_enum a (s1.heap.objs.size + 1) s1.heap.objs.size, ⟨⟨.none, he⟩, hit, Nat.succ_ne_self _⟩, fresh2, q⟩
    · obtain ⟨its, rv, p', hz⟩ := I1.tuple hq
      obtain ⟨o1, ho1, _⟩ := id p'
      have hlt := Heap.lt_size ho1
      refine call_enum1 (begins_tuple a its.toArray) (show s1.heap.IsTuple a its.toArray from p') fun h' he hit hsz hk => wpAny_pyIter_enum he ?_
      have I2 : Inv X pins σ H1 { s1 with heap := h' } := I1.kept (t' := s1.toks) hk
      exact ⟨s1.heap.objs.size + 1, [s1.heap.objs.size + 1, s1.heap.objs.size], _, _, H1, rfl, I2, turn_enumT a (s1.heap.objs.size + 1) s1.heap.objs.size (Nat.ne_of_lt hlt) (Nat.ne_of_gt (Nat.lt_succ_of_lt hlt)), ⟨⟨.none, he⟩, ⟨_, hit, rfl, rfl⟩, Nat.succ_ne_self _⟩, fresh2, q⟩
theorem walk_enumT {K : PySem.W.Frag} {a : Addr} {xs : List V} : Walk (IteT K a) xs.length (fun H => SqT K H a xs) (YPair (fun i => some (.int (i : Nat))) (fun i => xs[i]?)) :=
  ⟨fun i _ hi q => ⟨xs, xs[i], q, by simp [hi]⟩, fun _ q => ⟨xs, q, Nat.le_refl _⟩, fun i H v H' _ q ⟨T, x, e1, e2, e3, e4⟩ => ⟨T, _, x, e1, e2, e3, rfl, e4 xs q⟩⟩
end Lm

namespace Lm
open PySem L2
/-! ### defs, methods, classes as they stand behind the top, with their promises -/
structure DefOk (P : Program) (w : World) (K : PySem.W.Frag) (mg : Str → Option Value) (base : Heap) (k : Nat) (x : Str) (f : Addr) (fd : FuncData) (ps : List Str) (sp : Sp) : Prop where
  ok : FnOk P w K mg base CX0 k f fd ps sp
  kp : PySem.W.keepIn K (.ref f) = true
  bd : Binds K fd ps []
  mg : mg x = some (.ref f)
structure MetOk (P : Program) (w : World) (K : PySem.W.Frag) (mg : Str → Option Value) (base : Heap) (k : Nat) (C : Addr) (m : Str) (f : Addr) (fd : FuncData) (ps : List Str) (sp : Sp) : Prop where
  ok : FnOk P w K mg base CX0 k f fd ps sp
  bd : Binds K fd ps []
  mt : Meth K C m f
  cl : Cls K C
structure ClsOk (P : Program) (w : World) (K : PySem.W.Frag) (mg : Str → Option Value) (base : Heap) (k : Nat) (x : Str) (C f : Addr) (fd : FuncData) (ps : List Str) (sp : Sp) : Prop where
  ok : FnOk P w K mg base CX0 k f fd ps sp
  bd : Binds K fd ps []
  mkr : Mk K C f
  cl : Cls K C
  mg : mg x = some (.ref C)
section
variable {X : Cx} {k : Nat} {f C : Addr} {fd : FuncData} {ps : List Str} {sp : Sp} {x m : Str} {p pos apos : Pos} {e o : Expr} {es : List Expr} {ta : TE} {t : TA}
theorem pe_d (D : DefOk X.prog X.w X.K X.mg X.base k x f fd ps sp) (hr : Room k X.A) (ha : PA X (e :: es) t) (hg : Gl X x := by rfl) (hdb : (x == ("__debug__" : Str)) = false := by decide)
    (he : starEach (e :: es) X.env = (false, eval e X.env) :: starEach es X.env := by rfl) (hpl : (backTo pos (starEach es X.env)).any (·.1) = false := by rfl) :
    PE X (.Call (.Name x p) (e :: es) [] pos) (tCall sp [] E0 t) := pe_call D.ok hr hg D.mg D.kp D.bd .nil pass0 ha hdb he hpl
theorem pe_d0 (D : DefOk X.prog X.w X.K X.mg X.base k x f fd ps sp) (hr : Room k X.A) (hg : Gl X x := by rfl) (hdb : (x == ("__debug__" : Str)) = false := by decide) :
    PE X (.Call (.Name x p) [] [] pos) (tCall sp [] E0 tNil) := pe_call0 D.ok hr hg D.mg D.kp D.bd .nil pass0 hdb
theorem pe_mk (D : ClsOk X.prog X.w X.K X.mg X.base k x C f fd ps sp) (hr : Room (k + 1) X.A) (ha : PA X (e :: es) t) (hg : Gl X x := by rfl) (hdb : (x == ("__debug__" : Str)) = false := by decide)
    (he : starEach (e :: es) X.env = (false, eval e X.env) :: starEach es X.env := by rfl) (hpl : (backTo pos (starEach es X.env)).any (·.1) = false := by rfl) :
    PE X (.Call (.Name x p) (e :: es) [] pos) (tMake C sp [] E0 t) := pe_make D.mkr D.ok hr hg D.mg D.bd .nil pass0 ha hdb he hpl
theorem pe_m {pl : Sem Bool} (D : MetOk X.prog X.w X.K X.mg X.base k C m f fd ps sp) (hr : Room k X.A) (he : PE X o ta) (ha : PA X (e :: es) t)
    (hst : starEach (e :: es) X.env = (false, eval e X.env) :: starEach es X.env := by rfl) (hpl : (backTo pos (starEach es X.env)).any (·.1) = false := by rfl)
    (ht : eval (.Call (.Attribute o m apos) (e :: es) [] pos) X.env = (do
      let ov ← eval o X.env
      standAt apos.atName
      let (f, first) ← holding [ov] (getMethod ov m pl)
      callWith pos f first (backTo pos (starEach (e :: es) X.env)) (backToKw pos (keywordEach [] X.env))) := by rfl) :
    PE X (.Call (.Attribute o m apos) (e :: es) [] pos) (tMeth C m sp [] E0 ta t) := pe_meth (pl := pl) he D.cl D.mt D.ok hr D.bd .nil pass0 ha hst hpl ht
theorem pe_m0 {pl : Sem Bool} (D : MetOk X.prog X.w X.K X.mg X.base k C m f fd ps sp) (hr : Room k X.A) (he : PE X o ta)
    (ht : eval (.Call (.Attribute o m apos) [] [] pos) X.env = (do
      let ov ← eval o X.env
      standAt apos.atName
      let (f, first) ← holding [ov] (getMethod ov m pl)
      callWith pos f first (backTo pos (starEach [] X.env)) (backToKw pos (keywordEach [] X.env))) := by rfl) :
    PE X (.Call (.Attribute o m apos) [] [] pos) (tMeth C m sp [] E0 ta tNil) := pe_meth0 (pl := pl) he D.cl D.mt D.ok hr D.bd .nil pass0 ht
theorem MetOk.len (D : MetOk X.prog X.w X.K X.mg X.base k C "__len__" f fd ps sp) (hr : Room (k + 1) X.A) : CallR X (.builtin "len") (rLenOwn C sp E0) := call_lenOwn D.ok D.mt.at_ D.mt.fn D.bd hr pass0
theorem MetOk.isin (D : MetOk X.prog X.w X.K X.mg X.base k C "__contains__" f fd ps sp) (hr : Room k X.A) : OpR X (compareOp .In) (rInOwn C sp E0 false) := op_inOwn D.ok D.mt.at_ D.mt.fn D.bd hr pass0
theorem MetOk.notin (D : MetOk X.prog X.w X.K X.mg X.base k C "__contains__" f fd ps sp) (hr : Room k X.A) : OpR X (compareOp .NotIn) (rInOwn C sp E0 true) := op_notInOwn D.ok D.mt.at_ D.mt.fn D.bd hr pass0
theorem MetOk.bin {op : Operator} (D : MetOk X.prog X.w X.K X.mg X.base k C (PySem.dunder op.info.2) f fd ps sp) (hc : PySem.W.selfFirst X.K C = true) (hr : Room k X.A) : OpR X (binaryOp op) (rBinOwn C sp E0) := op_binOwn D.ok hc D.mt.at_ D.mt.fn D.bd hr pass0
theorem MetOk.le (D : MetOk X.prog X.w X.K X.mg X.base k C "__le__" f fd ps sp) (hr : Room k X.A) : OpR X (compareOp .LtE) (rBinOwn C sp E0) := op_cmpOwn (fun _ _ => rfl) D.ok D.mt.at_ D.mt.fn D.bd hr pass0
theorem MetOk.lt (D : MetOk X.prog X.w X.K X.mg X.base k C "__lt__" f fd ps sp) (hr : Room k X.A) : OpR X (compareOp .Lt) (rBinOwn C sp E0) := op_cmpOwn (fun _ _ => rfl) D.ok D.mt.at_ D.mt.fn D.bd hr pass0
theorem MetOk.eq (D : MetOk X.prog X.w X.K X.mg X.base k C "__eq__" f fd ps sp) (hr : Room k X.A) : OpR X (compareOp .Eq) (rBinOwn C sp E0) := op_cmpOwn (fun _ _ => rfl) D.ok D.mt.at_ D.mt.fn D.bd hr pass0
/-- x != y of two instances of a class with an own == alone -/
def rNeOwn (C : Addr) (sp : Sp) (E : XK) : R2 := fun x y H Q => ∃ a dx fs b dy gs, x = .ref a ∧ y = .ref b ∧ H a = some (.ins C dx fs) ∧ H b = some (.ins C dy gs) ∧ sp [x, y] H (fun z H' => ∃ k : Bool, z = .bl k ∧ Q (.bl (!k)) H') E
theorem MetOk.ne (D : MetOk X.prog X.w X.K X.mg X.base k C "__eq__" f fd ps sp) (hn : PySem.W.findIn X.K (.ref C) "__ne__" = some (some (.builtin "object.__ne__"))) (ho : PySem.W.subIn X.K (.ref C) (.type "object") = some true) (hr : Room (k + 1) X.A) :
    OpR X (compareOp .NotEq) (rNeOwn C sp E0) := by
  intro pins s σ H x y v u Q I rx ry h
  obtain ⟨a, dx, fs, b, dy, gs, rfl, rfl, ha, hb', q⟩ := h
  cases (show v = Value.ref a from rx)
  cases (show u = Value.ref b from ry)
  obtain ⟨mA, J, _⟩ := ins_get I.hok ha
  obtain ⟨mB, J', _⟩ := ins_get I.hok hb'
  obtain ⟨od, J, _⟩ := J.look
  obtain ⟨od', J', _⟩ := J'.look
  obtain ⟨m, hF⟩ := I.fr
  show wpAny _ _ (richCompare .NotEq _ _) _ _ _
  refine ne_own (tb := .ref C) (by have := hr.un; omega) hF I.ok.mod.kin J J'.type (by simp [PySem.W.notFirst]) hn ho D.mt.at_ D.mt.fn
    (wpAny_mono (run_in (us := [.ref a, .ref b]) (vs := [.ref a, .ref b]) D.ok hr.in1 I.env0.in1 D.bd pass0 I (.cons rfl (.cons rfl .nil)) q) (fun w s' z => ?_) fun _ _ x => x)
  obtain ⟨z', H', I', rz, b, ez, qz⟩ := z
  subst ez
  cases (show w = Value.bool b from rz)
  exact ⟨b, rfl, .bl _, H', I', rfl, qz⟩
end
/-! ### heaps -/
/-- all that was tracked is as it was, but perhaps what stands at st -/
def Kp (st : Addr) (H H' : Hp) : Prop := ∀ b o, b ≠ st → H b = some o → H' b = some o
theorem Kp.refl (st : Addr) (H : Hp) : Kp st H H := fun _ _ _ h => h
theorem Kp.trans {st : Addr} {H H1 H2 : Hp} (a : Kp st H H1) (b : Kp st H1 H2) : Kp st H H2 := fun c o n h => b c o n (a c o n h)
theorem Kp.of {st : Addr} {H H' : Hp} (s : Same H H') : Kp st H H' := fun b o _ h => s b o h
theorem Kp.upd (st : Addr) (H : Hp) (o : HO) : Kp st H (upd H st o) := fun b u n h => by rw [upd_ne n]; exact h
theorem Kp.free {st : Addr} {H H' : Hp} (e : Kp st H H') {l : Addr} (hl : l ≠ st) (h : H' l = none) : H l = none := by
  cases q : H l with
  | none => rfl
  | some o => rw [e l o hl q] at h; cases h
theorem Same.upd' {H : Hp} {p : Addr} {o : HO} (h : H p = none) : Same H (upd H p o) := fun a u e => by rw [upd_ne (ne_of_none e h)]; exact e
/-- an object that H does not know may change -/
theorem Same.mut {H H' : Hp} {p : Addr} {o : HO} (e : Same H H') (h : H p = none) : Same H (upd H' p o) := fun a u ha => by rw [upd_ne (ne_of_none ha h)]; exact e a u ha
theorem Kp.mut {st : Addr} {H H' : Hp} {p : Addr} {o : HO} (e : Kp st H H') (h : H p = none) : Kp st H (L2.upd H' p o) := fun a u hn ha => by rw [upd_ne (ne_of_none ha h)]; exact e a u hn ha
theorem Kp.seqL {st : Addr} {K : PySem.W.Frag} {H H' : Hp} {a : Addr} {xs : List V} (e : Kp st H H') (hn : a ≠ st) (h : SqL K H a xs) : SqL K H' a xs := by
  rcases h with (h | ⟨o, h⟩) | h
  · exact .inl (.inl (e _ _ hn h))
  · exact .inl (.inr ⟨o, e _ _ hn h⟩)
  · exact .inr h
theorem Kp.seqT {st : Addr} {K : PySem.W.Frag} {H H' : Hp} {a : Addr} {xs : List V} (e : Kp st H H') (hn : a ≠ st) (h : SqT K H a xs) : SqT K H' a xs := by
  rcases h with (h | ⟨o, h⟩) | h
  · exact .inl (.inl (e _ _ hn h))
  · exact .inl (.inr ⟨o, e _ _ hn h⟩)
  · exact .inr h
theorem Same.seqT {K : PySem.W.Frag} {H H' : Hp} {a : Addr} {xs : List V} (e : Same H H') (h : SqT K H a xs) : SqT K H' a xs := by
  rcases h with (h | ⟨o, h⟩) | h
  · exact .inl (.inl (e _ _ h))
  · exact .inl (.inr ⟨o, e _ _ h⟩)
  · exact .inr h
/-- the law's state: the cells, how many were taken, what is left, whether it is far -/
structure StAt (H : Hp) (st c : Addr) : Prop where
  ob : ∃ (n l : Int) (b : Bool), H st = some (.lst [.ref c, .int n, .int l, .bl b])
  ce : ∃ ns : List Int, H c = some (.lst (ns.map V.int)) ∧ ns.length ≤ 63
  ne : c ≠ st
theorem StAt.same {H H' : Hp} {st c : Addr} (S : StAt H st c) (e : Same H H') : StAt H' st c := by
  obtain ⟨⟨n, l, b, h⟩, ⟨ns, h2, h3⟩, ne⟩ := S
  exact ⟨⟨n, l, b, e _ _ h⟩, ⟨ns, e _ _ h2, h3⟩, ne⟩
/-- another object changes -/
theorem StAt.mut {H : Hp} {st c p : Addr} {o : HO} (S : StAt H st c) (h1 : p ≠ st) (h2 : p ≠ c) : StAt (upd H p o) st c := by
  obtain ⟨⟨n, l, b, h⟩, ⟨ns, h4, h3⟩, ne⟩ := S
  exact ⟨⟨n, l, b, by rw [upd_ne (Ne.symm h1)]; exact h⟩, ⟨ns, by rw [upd_ne (Ne.symm h2)]; exact h4, h3⟩, ne⟩
theorem StAt.of_new {H : Hp} {st c p : Addr} (S : StAt H st c) (h : H p = none) : p ≠ st ∧ p ≠ c := by
  obtain ⟨⟨n, l, b, h1⟩, ⟨ns, h4, h3⟩, ne⟩ := S
  exact ⟨(ne_of_none h1 h).symm, (ne_of_none h4 h).symm⟩
end Lm

namespace Lm
open PySem L2
section
variable {X : Cx} {CX : CXT} {k : Nat} {f f' C : Addr} {fd : FuncData} {ps : List Str} {sp : Sp} {E : XK}
/-- x op n, x an instance of the class at C, n an integer -/
def rBinInt (C : Addr) (sp : Sp) (E : XK) : R2 := fun x y H Q => ∃ a dx fs n, x = .ref a ∧ y = .int n ∧ H a = some (.ins C dx fs) ∧ sp [x, y] H Q E
/-- what the text says of the class's own op and of the integers' -/
structure BinInt (K : PySem.W.Frag) (C : Addr) (nm : String) : Prop where
  self : PySem.W.selfFirst K C = true
  r : ∃ rc, PySem.W.findIn K (.ref C) (PySem.dunderR nm) = some rc ∧ (rc = none ∨ ∃ g : Addr, rc = some (.ref g))
  i1 : ∃ fo, PySem.W.findIn K (.type "int") (PySem.dunder nm) = some fo
  i2 : ∃ ro, PySem.W.findIn K (.type "int") (PySem.dunderR nm) = some ro
  sub : PySem.W.subIn K (.type "int") (.ref C) = some false
theorem op_binInt {op : Operator} (F : FnOk X.prog X.w X.K X.mg X.base CX k f fd ps sp) (B : BinInt X.K C op.info.2) (hs : PySem.W.findIn X.K (.ref C) (PySem.dunder op.info.2) = some (some (.ref f))) (hf : PySem.W.isFn X.K (.ref f) = true) (hb : Binds X.K fd ps []) (hr : Room k X.A) (hx : Passes CX X E) :
    OpR X (binaryOp op) (rBinInt C sp E) := by
  intro pins s σ H x y v u Q I rx ry h
  obtain ⟨a, dx, fs, n, rfl, rfl, ha, q⟩ := h
  cases (show v = Value.ref a from rx)
  obtain ⟨t, e⟩ := (show ∃ t, u = Value.int n t from ry)
  subst e
  obtain ⟨mA, J, _⟩ := ins_get I.hok ha
  obtain ⟨od, J, _⟩ := J.look
  obtain ⟨m, hF⟩ := I.fr
  obtain ⟨rc, b1, b2⟩ := B.r
  obtain ⟨fo, b3⟩ := B.i1
  obtain ⟨ro, b4⟩ := B.i2
  refine PySem.W.ksp_binT (T := "int") hF I.ok.mod.kin J rfl B.self hs hf b1 b2 b3 b4 B.sub (wpAny_mono (run_in (us := [.ref a, .int n t]) (vs := [.ref a, .int n]) F hr I.env0 hb hx I (.cons rfl (.cons ⟨t, rfl⟩ .nil)) q) (fun w s' z => ?_) fun _ _ x => x)
  obtain ⟨z', H', I', rz, qz⟩ := z
  exact cmpBack rz ⟨z', H', I', rz, qz⟩
theorem MetOk.bini {op : Operator} (D : MetOk X.prog X.w X.K X.mg X.base k C (PySem.dunder op.info.2) f fd ps sp) (B : BinInt X.K C op.info.2) (hr : Room k X.A) : OpR X (binaryOp op) (rBinInt C sp E0) := op_binInt D.ok B D.mt.at_ D.mt.fn D.bd hr pass0
theorem MetOk.gt (D : MetOk X.prog X.w X.K X.mg X.base k C "__gt__" f fd ps sp) (hr : Room k X.A) : OpR X (compareOp .Gt) (rBinOwn C sp E0) := op_cmpOwn (fun _ _ => rfl) D.ok D.mt.at_ D.mt.fn D.bd hr pass0
theorem MetOk.ge (D : MetOk X.prog X.w X.K X.mg X.base k C "__ge__" f fd ps sp) (hr : Room k X.A) : OpR X (compareOp .GtE) (rBinOwn C sp E0) := op_cmpOwn (fun _ _ => rfl) D.ok D.mt.at_ D.mt.fn D.bd hr pass0
/-- a property of a class, with its getter's promise -/
structure PrpOk (P : Program) (w : World) (K : PySem.W.Frag) (mg : Str → Option Value) (base : Heap) (k : Nat) (C p : Addr) (m : Str) (f : Addr) (fd : FuncData) (ps : List Str) (sp : Sp) : Prop where
  ok : FnOk P w K mg base CX0 k f fd ps sp
  bd : Binds K fd ps []
  pr : PropOf K C m p f
  cl : Cls K C
theorem pe_p {p : Addr} {m : Str} {e : Expr} {pos : Pos} {ta : TE} (D : PrpOk X.prog X.w X.K X.mg X.base k C p m f fd ps sp) (hr : Room (k + 1) X.A) (he : PE X e ta) (hab : attributeBase e m X.env (eval e X.env) = eval e X.env := by rfl) :
    PE X (.Attribute e m pos) (tProp C sp [] E0 ta) := pe_prop he D.cl D.pr D.ok hr D.bd .nil pass0 hab
end
end Lm

namespace Lm
open PySem L2 PyProof.Rows
section
variable {prog : Program} {w : World} {A : Around} {E : Value → Shared → Prop} {s : Shared}
theorem isList_push {h : Heap} {l : Addr} {items : Array Value} {o : Obj} (x : h.IsList l items) : (h.push o).IsList l items := by
  obtain ⟨ol, hol, r⟩ := x
  exact ⟨ol, Heap.get?_push_of_some _ hol, r⟩
theorem isList_ext {h h' : Heap} {it l : Addr} {items : Array Value} (x : h.IsList l items) (e : Heap.ExtBut it h h') (n : l ≠ it) : h'.IsList l items := by
  obtain ⟨ol, hol, r⟩ := x
  exact ⟨ol, e l ol n hol, r⟩
theorem draw_list {it t : Addr} {items : Array Value} (hne : t ≠ it) : ∀ (n i : Nat) (s : Shared) (Q : List Value → Shared → Prop), s.heap.IsListIter it t i → s.heap.IsList t items → i + n ≤ items.size →
    (∀ h', h'.IsListIter it t (i + n) → Heap.SameBut it s.heap h' → Q ((items.toList.drop i).take n) { s with heap := h' }) → wpAny (model prog w) A (draw (.ref it) n) Q E s
  | 0, i, s, Q, hit, _, _, hQ => by
    show wpAny _ _ (pure []) Q E s
    exact wpAny_pure (by simpa using hQ s.heap hit (Heap.SameBut.refl ..))
  | n + 1, i, s, Q, hit, ht, hle, hQ => by
    have hlt : i < items.size := by omega
    show wpAny _ _ (pyNext (.ref it) >>= _) Q E s
    refine wpAny_bind (wpAny_pyNext_list_item hit ht (x := items[i]) (by simp [hlt]) fun h₁ hit₁ hs₁ => ?_)
    refine wpAny_bind (wpAny_holding (draw_list hne n (i + 1) _ _ hit₁ (isList_ext ht hs₁.extBut hne) (by omega) fun h₂ hit₂ hs₂ => wpAny_pure ?_))
    have hd : items.toList.drop i = items[i] :: items.toList.drop (i + 1) := by simp [List.drop_eq_getElem_cons, hlt]
    have := hQ h₂ (by rw [show i + (n + 1) = i + 1 + n by omega]; exact hit₂) (hs₁.trans hs₂)
    rw [hd, List.take_succ_cons] at this
    exact this
theorem unpackItems_list {t : Addr} {items : Array Value} {Q : List Value → Shared → Prop} (hh : A.handled = none) (ht : s.heap.IsList t items)
    (hQ : ∀ h', Heap.ExtBut s.heap.objs.size s.heap h' → Q items.toList { s with heap := h' }) : wpAny (model prog w) A (unpackItems (.ref t) items.size none) Q E s := by
  have hlt : t ≠ s.heap.objs.size := by obtain ⟨o, ho, _⟩ := ht; exact Nat.ne_of_lt (Heap.lt_size ho)
  unfold unpackItems
  refine wpAny_bind ?_
  · unfold notIterableAtAll
    refine wpAny_bind (wpAny_specialOf ht.typeIs PySem.F.slot_list_iter.lookup ?_)
    refine wpAny_pure ?_
    simp only [Bool.false_eq_true, if_false]
    refine wpAny_bind (wpAny_holding (wpAny_pyIter_list ht ?_))
    refine wpAny_bind (wpAny_holding (draw_list hlt items.size 0 _ _ ⟨_, Heap.get?_push_size _ rfl, rfl, rfl⟩ (isList_push ht) (by omega) fun h₁ hit₁ hs₁ => ?_))
    have hall : List.take items.size (List.drop 0 items.toList) = items.toList := by
      rw [List.drop_zero]; exact List.take_of_length_le (by simp)
    rw [hall]
    rw [if_neg (by simp)]
    have ht₁ : h₁.IsList t items := isList_ext (isList_push ht) hs₁.extBut hlt
    refine wpAny_bind (wpAny_holding (wpAny_pyNext_list_end hh hit₁ ht₁ (by simp) fun h₂ he₂ => ?_))
    simp only [Option.isSome_none, Bool.false_eq_true, if_false]
    refine wpAny_pure (hQ h₂ fun b o hb e => he₂ b o hb (hs₁.extBut b o hb (Heap.get?_push_of_some _ e)))
theorem assign_Tuple_list {env : Env} {elts : List Expr} {x1} {pos : Pos} {t : Addr} {items : Array Value} {Q : Unit → Shared → Prop} (hh : A.handled = none) (ht : s.heap.IsList t items)
    (hn : (assignEach elts env).length = items.size) (hstar : (assignEach elts env).findIdx? (·.1) = none)
    (h : ∀ h', Heap.ExtBut s.heap.objs.size s.heap h' → wpAny (model prog w) A (assignInOrder ((assignEach elts env).map (·.2)) items.toList) Q E { s with heap := h' }) :
    wpAny (model prog w) A (assign (.Tuple elts x1 pos) env (.ref t)) Q E s := by
  rw [PyProof.Rows.assign_Tuple]
  refine wpAny_bind (wpAny_standAt ?_)
  unfold unpack
  rw [hn, hstar]
  exact wpAny_bind (wpAny_holding (unpackItems_list hh ht h))
end
/-- (a, b, ..) = a list of that length -/
def gTupL (K : PySem.W.Frag) (n : Nat) (t : TGs) : TG := fun v σ H Q => ∃ a xs, v = .ref a ∧ SqL K H a xs ∧ xs.length = n ∧ t xs σ H Q
theorem pg_tupL {X : Cx} {es : List Expr} {k : Nat} {pos : Pos} {t : TGs} {n : Nat} (hc : X.calm = true) (h : PGs X es t)
    (hn : (assignEach es X.env).length = n := by rfl) (hst : (assignEach es X.env).findIdx? (·.1) = none := by rfl) : PG X (.Tuple es k pos) (gTupL X.K n t) := by
  refine ⟨fun pins s σ H v u Q I r hw => ?_⟩
  obtain ⟨a, xs, e1, hq, hl, hw⟩ := hw
  subst e1
  cases r
  obtain ⟨its, rv, ⟨o, m, e, hcl, _, d⟩, hz⟩ := I.list hq
  refine assign_Tuple_list (I.ok.hd hc) ⟨o, e, hcl, m, d⟩ (by simp [hn, ← hl, rv.length]) hst fun h' hx => ?_
  have I1 : Inv X pins σ H { s with heap := h' } := I.kept (t' := s.toks) fun b o e => hx b o (Nat.ne_of_lt (Heap.lt_size e)) e
  exact h.run pins _ σ H xs _ Q I1 (by simpa using rv) hw
end Lm

namespace Lm
open PySem PySem.W PySem.Calls PyProof.Rows
open AutoSeq1 (wpAny_loadPart')
section
variable {prog : Program} {w : World} {A : Around} {E : Value → Shared → Prop} {s : Shared} {K : Frag} {x C L f dx : Addr} {h₀ : Heap} {m : Str → Option Value} {od : Option Obj}
theorem int_eq_ins (n : Int) (t : Tok) (x : Addr) {C dx : Addr} : GivesAt (fun s => s.heap.get? x = some (instObj C dx)) (Builtin.«int.__eq__» ⟨[.int n t, .ref x], []⟩) (.val .notImplemented) := by
  intro prog w A R s hx h
  obtain ⟨hp, g, d, tk, os⟩ := s
  have hx : hp.get? x = some (instObj C dx) := hx
  wp_walk using wpAny_load hx, wpAny_loadPart' hx
  exact h
theorem str_eq_ins (n : Str) (t : Tok) (x : Addr) {C dx : Addr} : GivesAt (fun s => s.heap.get? x = some (instObj C dx)) (Builtin.«str.__eq__» ⟨[.str n t, .ref x], []⟩) (.val .notImplemented) := by
  intro prog w A R s hx h
  obtain ⟨hp, g, d, tk, os⟩ := s
  have hx : hp.get? x = some (instObj C dx) := hx
  wp_walk using wpAny_load hx, wpAny_loadPart' hx
  exact h
theorem list_eq_ins (l x : Addr) {items : Array Value} {n : Nat} {dd : Option Addr} {sl : Array (Option Value)} : GivesAt (fun s => s.heap.get? l = some { cls := .type "list", dict := dd, data := .seq items n, slots := sl } ∧ ∀ prog w, Looks (model prog w) s.heap (isInstance (.ref x) (.type "list")) false)
    (Builtin.«list.__eq__» ⟨[.ref l, .ref x], []⟩) (.val .notImplemented) := by
  intro prog w A R s ⟨hl, hi⟩ h
  obtain ⟨hp, g, d, tk, os⟩ := s
  have hi := hi prog w
  wp_walk using hi.here, wpAny_loadPart' hl
  exact h
theorem tuple_eq_ins (l x : Addr) {items : Array Value} {n : Nat} {dd : Option Addr} {sl : Array (Option Value)} : GivesAt (fun s => s.heap.get? l = some { cls := .type "tuple", dict := dd, data := .seq items n, slots := sl } ∧ ∀ prog w, Looks (model prog w) s.heap (isInstance (.ref x) (.type "tuple")) false)
    (Builtin.«tuple.__eq__» ⟨[.ref l, .ref x], []⟩) (.val .notImplemented) := by
  intro prog w A R s ⟨hl, hi⟩ h
  obtain ⟨hp, g, d, tk, os⟩ := s
  have hi := hi prog w
  wp_walk using hi.here, wpAny_loadPart' hl
  exact h
/-- v == x, v of a built-in type whose own == declines, x an instance with an own == -/
theorem eq_refl_K {Q : Value → Shared → Prop} {v : Value} {T id : String} {ox : Obj} (hu : A.units < cLine) (F : Fr h₀ L s.heap m) (X₀ : K.In h₀) (I : InstAt s.heap x ox C od) (hT : s.TypeIs v T) (slot : Slot T (cmpInfo .Eq).2.1 id)
    (hsub : subIn K (.ref C) (.type T) = some false) (hs : findIn K (.ref C) "__eq__" = some (some (.ref f))) (hf : isFn K (.ref f) = true)
    (hc : ∀ Q' : Value → Shared → Prop, Q' .notImplemented s → wpAny (model prog w) A (call (.builtin id) [v, .ref x]) Q' E s)
    (h : wpAny (model prog w) A (call (.ref f) [.ref x, v]) (PySem.W.CmpBack Q) E s) : wpAny (model prog w) A (richCompare .Eq v (.ref x)) Q E s := by
  have X := X₀.keeps F.keep
  have two : wpAny (model prog w) A (tryCompare (.ref x) "__eq__" v) (fun r s' => ∃ u, r = some u ∧ Q u s') E s := by
    unfold tryCompare
    refine wpAny_bind (ifBound_K X I hs hf (wpAny_mono h (fun v s' hv => ?_) fun _ _ e => e))
    cases v <;> first | exact hv.elim | exact wpAny_pure ⟨_, rfl, hv⟩
  have hne : (Value.type T != Value.ref C) = true := by
    rw [bne_iff_ne]; intro z; cases z
  simp only [richCompare, cmpInfo, hT.oneThing_none] at slot ⊢
  refine wpAny_holding ?_
  refine wpAny_bind (wpAny_cRoomFor hu ?_)
  refine wpAny_bind (wpAny_typeOf hT (wpAny_bind (I.type.here ?_)))
  simp only [hne, if_true]
  refine wpAny_bind ((looks_subIn X hsub).here ?_)
  simp only [Bool.false_eq_true, if_false, Bool.not_false, if_true]
  refine wpAny_bind (m := tryCompare v _ (.ref x)) (wpAny_tryCompare_declines hT slot (hc _ ⟨rfl, ?_⟩))
  refine wpAny_bind (wpAny_mono two (fun r s' z => ?_) fun _ _ e => e)
  obtain ⟨u, rfl, hq⟩ := z
  exact wpAny_pure hq
end
end Lm

namespace Lm
open PySem L2 RZ
theorem walk_zipT {K : PySem.W.Frag} {a b : Addr} {xs ys : List V} {n : Nat} (hn : n = min xs.length ys.length) : Walk (ItzT K a b) n (fun H => SqT K H a xs ∧ SqT K H b ys) (YPair (fun i => xs[i]?) (fun i => ys[i]?)) := by
  subst hn
  refine ⟨fun i _ hi q => ?_, fun _ q => ⟨xs, ys, q.1, q.2, by omega⟩, fun i H v H' _ q y => ?_⟩
  · have h1 : i < xs.length := by omega
    have h2 : i < ys.length := by omega
    exact ⟨xs, ys, xs[i], ys[i], q.1, q.2, by simp [h1], by simp [h2]⟩
  · obtain ⟨T, x, z, h1, h2, h3, h4, h5⟩ := y
    exact ⟨T, x, z, h1, h2, h3, h4 xs q.1, h5 ys q.2⟩
/-- built-in values whose own == declines an instance -/
inductive TyE (H : Hp) : V → String → Prop where
  | non : TyE H .non "NoneType"
  | int (i : Int) : TyE H (.int i) "int"
  | str (x : Str) : TyE H (.str x) "str"
  | lst {a : Addr} {xs : List V} (e : H a = some (.lst xs)) : TyE H (.ref a) "list"
  | tup {a : Addr} {xs : List V} (e : H a = some (.tup xs)) : TyE H (.ref a) "tuple"
section
variable {X : Cx} {CX : CXT} {k : Nat} {f C : Addr} {fd : FuncData} {ps : List Str} {sp : Sp} {E : XK}
theorem op_or {op : Value → Value → Sem Value} {r r' : R2} (h : OpR X op r) (h' : OpR X op r') : OpR X op (fun x y H Q => r x y H Q ∨ r' x y H Q) := by
  intro pins s σ H x y v u Q I rx ry q
  rcases q with q | q
  · exact h pins s σ H x y v u Q I rx ry q
  · exact h' pins s σ H x y v u Q I rx ry q
/-- x == y, x an instance with an own ==, y anything -/
def rEqL (K : PySem.W.Frag) (C : Addr) (sp : Sp) (E : XK) : R2 := fun x y H Q => ∃ a dx fs t, x = .ref a ∧ H a = some (.ins C dx fs) ∧ TyX K H y t ∧ PySem.W.notFirst K C t = true ∧ sp [x, y] H Q E
theorem op_eqL (F : FnOk X.prog X.w X.K X.mg X.base CX k f fd ps sp) (hs : PySem.W.findIn X.K (.ref C) "__eq__" = some (some (.ref f))) (hf : PySem.W.isFn X.K (.ref f) = true) (hb : Binds X.K fd ps []) (hr : Room k X.A) (hx : Passes CX X E) :
    OpR X (compareOp .Eq) (rEqL X.K C sp E) := by
  intro pins s σ H x y v u Q I rx ry h
  obtain ⟨a, dx, fs, t, rfl, ha, ty, hn, q⟩ := h
  cases (show v = Value.ref a from rx)
  obtain ⟨mA, J, _⟩ := ins_get I.hok ha
  obtain ⟨od, J, _⟩ := J.look
  obtain ⟨P, Z, p, _⟩ := kit_of I ry ty
  obtain ⟨m, hF⟩ := I.fr
  show wpAny _ _ (richCompare .Eq _ _) _ _ _
  refine PySem.W.cmp_K (op := .Eq) (tb := t) hr.units0 hF I.ok.mod.kin J (Z.ty _ _ I.kIn p) hn hs hf (wpAny_mono (run_in (us := [.ref a, u]) (vs := [.ref a, y]) F hr I.env0 hb hx I (.cons rfl (.cons ry .nil)) q) (fun w s' z => ?_) fun _ _ x => x)
  obtain ⟨z', H', I', rz, qz⟩ := z
  exact cmpBack rz ⟨z', H', I', rz, qz⟩
/-- x != y, x an instance with an own == alone, y anything -/
def rNeL (K : PySem.W.Frag) (C : Addr) (sp : Sp) (E : XK) : R2 := fun x y H Q => ∃ a dx fs t, x = .ref a ∧ H a = some (.ins C dx fs) ∧ TyX K H y t ∧ PySem.W.notFirst K C t = true ∧ sp [x, y] H (fun z H' => ∃ k : Bool, z = .bl k ∧ Q (.bl (!k)) H') E
theorem op_neL (F : FnOk X.prog X.w X.K X.mg X.base CX k f fd ps sp) (hs : PySem.W.findIn X.K (.ref C) "__eq__" = some (some (.ref f))) (hf : PySem.W.isFn X.K (.ref f) = true) (hb : Binds X.K fd ps [])
    (hn : PySem.W.findIn X.K (.ref C) "__ne__" = some (some (.builtin "object.__ne__"))) (ho : PySem.W.subIn X.K (.ref C) (.type "object") = some true) (hr : Room (k + 1) X.A) (hx : Passes CX X E) :
    OpR X (compareOp .NotEq) (rNeL X.K C sp E) := by
  intro pins s σ H x y v u Q I rx ry h
  obtain ⟨a, dx, fs, t, rfl, ha, ty, hnf, q⟩ := h
  cases (show v = Value.ref a from rx)
  obtain ⟨mA, J, _⟩ := ins_get I.hok ha
  obtain ⟨od, J, _⟩ := J.look
  obtain ⟨P, Z, p, _⟩ := kit_of I ry ty
  obtain ⟨m, hF⟩ := I.fr
  show wpAny _ _ (richCompare .NotEq _ _) _ _ _
  refine ne_own (tb := t) (by have := hr.un; omega) hF I.ok.mod.kin J (Z.ty _ _ I.kIn p) hnf hn ho hs hf
    (wpAny_mono (run_in (us := [.ref a, u]) (vs := [.ref a, y]) F hr.in1 I.env0.in1 hb hx I (.cons rfl (.cons ry .nil)) q) (fun w s' z => ?_) fun _ _ x => x)
  obtain ⟨z', H', I', rz, b, ez, qz⟩ := z
  subst ez
  cases (show w = Value.bool b from rz)
  exact ⟨b, rfl, .bl _, H', I', rfl, qz⟩
/-- x == y, x of a built-in type, y an instance with an own == -/
def rEqR (K : PySem.W.Frag) (C : Addr) (sp : Sp) (E : XK) : R2 := fun x y H Q => ∃ b dy gs T, y = .ref b ∧ H b = some (.ins C dy gs) ∧ TyE H x T ∧ PySem.W.subIn K (.ref C) (.type T) = some false ∧ sp [y, x] H Q E
theorem op_eqR (F : FnOk X.prog X.w X.K X.mg X.base CX k f fd ps sp) (hs : PySem.W.findIn X.K (.ref C) "__eq__" = some (some (.ref f))) (hf : PySem.W.isFn X.K (.ref f) = true) (hb : Binds X.K fd ps []) (hr : Room k X.A) (hx : Passes CX X E) :
    OpR X (compareOp .Eq) (rEqR X.K C sp E) := by
  intro pins s σ H x y v u Q I rx ry h
  obtain ⟨b, dy, gs, T, rfl, hb', ty, hsub, q⟩ := h
  cases (show u = Value.ref b from ry)
  obtain ⟨mA, J, _⟩ := ins_get I.hok hb'
  obtain ⟨od, J, _⟩ := J.look
  obtain ⟨m, hF⟩ := I.fr
  show wpAny _ _ (richCompare .Eq _ _) _ _ _
  have run : wpAny (model X.prog X.w) X.A (call (.ref f) [.ref b, v]) (PySem.W.CmpBack (EP X pins σ Q)) X.xe s := by
    refine wpAny_mono (run_in (us := [.ref b, v]) (vs := [.ref b, x]) F hr I.env0 hb hx I (.cons rfl (.cons rx .nil)) q) (fun w s' z => ?_) fun _ _ x => x
    obtain ⟨z', H', I', rz, qz⟩ := z
    exact cmpBack rz ⟨z', H', I', rz, qz⟩
  have hin : ∀ (T : String), PySem.W.subIn X.K (.ref C) (.type T) = some false → ∀ prog w, PySem.W.Looks (model prog w) s.heap (isInstance (.ref b) (.type T)) false := fun T h prog w => J.type.andThen (PySem.W.looks_subIn I.kIn h)
  cases ty with
  | non =>
    cases (show v = Value.none from rx)
    exact eq_refl_K hr.units0 hF I.ok.mod.kin J rfl PySem.F.slot_NoneType_eq hsub hs hf (fun Q' hq => call_gives PySem.F.slot_NoneType_eq rfl PySem.F.entry_NoneType_eq (PySem.F.args_NoneType_eq_2 _ _) (SeqAt.NoneType___eq___none_ref_0 b) hq) run
  | int i =>
    obtain ⟨t, e⟩ := (show ∃ t, v = Value.int i t from rx)
    subst e
    exact eq_refl_K hr.units0 hF I.ok.mod.kin J (typeIs_int _ i t) PySem.F.slot_int_eq hsub hs hf (fun Q' hq => PySem.call_givesAt PySem.F.slot_int_eq (typeIs_int _ i t) PySem.F.entry_int_eq (PySem.F.args_int_eq_2 _ _) (int_eq_ins i t b) J.at_ hq) run
  | str i =>
    obtain ⟨t, e⟩ := (show ∃ t, v = Value.str i t from rx)
    subst e
    exact eq_refl_K hr.units0 hF I.ok.mod.kin J (typeIs_str _ i t) PySem.F.slot_str_eq hsub hs hf (fun Q' hq => PySem.call_givesAt PySem.F.slot_str_eq (typeIs_str _ i t) PySem.F.entry_str_eq (PySem.F.args_str_eq_2 _ _) (str_eq_ins i t b) J.at_ hq) run
  | @lst a xs e =>
    cases (show v = Value.ref a from rx)
    obtain ⟨_, _, n, _, h1⟩ := (show ObjOk X.prog X.w H s.heap a (.lst xs) from I.hok a _ e)
    exact eq_refl_K hr.units0 hF I.ok.mod.kin J ⟨_, h1, rfl⟩ PySem.F.slot_list_eq hsub hs hf (fun Q' hq => PySem.call_givesAt PySem.F.slot_list_eq ⟨_, h1, rfl⟩ PySem.F.entry_list_eq (PySem.F.args_list_eq_2 _ _) (list_eq_ins a b) ⟨h1, hin _ hsub⟩ hq) run
  | @tup a xs e =>
    cases (show v = Value.ref a from rx)
    obtain ⟨_, _, _, ⟨oc, od', dt, sl⟩, h1, h2, n, h3⟩ := (show ObjOk X.prog X.w H s.heap a (.tup xs) from I.hok a _ e)
    simp only at h2 h3
    subst h2 h3
    exact eq_refl_K hr.units0 hF I.ok.mod.kin J ⟨_, h1, rfl⟩ PySem.F.slot_tuple_eq hsub hs hf (fun Q' hq => PySem.call_givesAt PySem.F.slot_tuple_eq ⟨_, h1, rfl⟩ PySem.F.entry_tuple_eq (PySem.F.args_tuple_eq_2 _ _) (tuple_eq_ins a b) ⟨h1, hin _ hsub⟩ hq) run
theorem MetOk.eqL (D : MetOk X.prog X.w X.K X.mg X.base k C "__eq__" f fd ps sp) (hr : Room k X.A) : OpR X (compareOp .Eq) (rEqL X.K C sp E0) := op_eqL D.ok D.mt.at_ D.mt.fn D.bd hr pass0
theorem MetOk.eqR (D : MetOk X.prog X.w X.K X.mg X.base k C "__eq__" f fd ps sp) (hr : Room k X.A) : OpR X (compareOp .Eq) (rEqR X.K C sp E0) := op_eqR D.ok D.mt.at_ D.mt.fn D.bd hr pass0
theorem MetOk.neL (D : MetOk X.prog X.w X.K X.mg X.base k C "__eq__" f fd ps sp) (hn : PySem.W.findIn X.K (.ref C) "__ne__" = some (some (.builtin "object.__ne__"))) (ho : PySem.W.subIn X.K (.ref C) (.type "object") = some true) (hr : Room (k + 1) X.A) :
    OpR X (compareOp .NotEq) (rNeL X.K C sp E0) := op_neL D.ok D.mt.at_ D.mt.fn D.bd hn ho hr pass0
end
def rAddS : R2 := fun x y H Q => ∃ i j, x = .str i ∧ y = .str j ∧ i.length + j.length ≤ sizeLine ∧ Q (.str (i ++ j)) H
/-! ### C(k2 = b, k1 = a) -/
def swapR {α : Type} (us ws : List α) : List α := us ++ ws.reverse
theorem vals_snoc : ∀ {vs : List V} {us : List Value} {v : V} {u : Value}, Vals vs us → RelV v u → Vals (vs ++ [v]) (us ++ [u])
  | _, _, _, _, .nil, r => .cons r .nil
  | _, _, _, _, .cons a b, r => .cons a (vals_snoc b r)
theorem vals_rev : ∀ {vs : List V} {us : List Value}, Vals vs us → Vals vs.reverse us.reverse
  | _, _, .nil => .nil
  | _, _, .cons a b => by rw [List.reverse_cons, List.reverse_cons]; exact vals_snoc (vals_rev b) a
theorem vals_app : ∀ {vs : List V} {us : List Value} {ws : List V} {zs : List Value}, Vals vs us → Vals ws zs → Vals (vs ++ ws) (us ++ zs)
  | _, _, _, _, .nil, r => r
  | _, _, _, _, .cons a b, r => .cons a (vals_app b r)
theorem Fun.swap {K : PySem.W.Frag} {x qual : Str} {st : Stmt} {f : Addr} {fd : FuncData} {ps : List Str} {k1 k2 : Str} (F : Fun K x qual st f fd)
    (h : ∀ (kV doc pm : Value) (an : Option Addr) (cdv ct : Value) (a b c : Value), bindArgs (PySem.W.fnOf x qual (defArgs st) (defBody st) (defScope st) .none kV doc pm an cdv ct) ⟨[a], [(k2, c), (k1, b)]⟩ = pure (ps.zip [a, b, c])) : KBn K fd ps 1 [k2, k1] swapR swapR := by
  obtain ⟨oc, od, kV, doc, pm, an, cdv, ct, osl, rfl, lk, hcd⟩ := F.ex
  refine ⟨fun s us ws X l1 l2 => ?_, fun r1 r2 => vals_app r1 (vals_rev r2)⟩
  match us, ws, l1, l2 with
  | [a], [c, b], _, _ => exact .of_eq (h kV doc pm an cdv ct a b c)
section
variable {X : Cx} {k : Nat} {f C : Addr} {fd : FuncData} {ps ks : List Str} {sp : Sp} {x : Str} {p pos : Pos} {kws : List Keyword} {tk : TA} {g : List Value → List Value → List Value} {gV : List V → List V → List V}
theorem pe_mkK (D : ClsOk X.prog X.w X.K X.mg X.base k x C f fd ps sp) (hb : KBn X.K fd ps 1 ks g gV) (hr : Room (k + 1) X.A) (hkw : PK X kws tk) (hg : Gl X x := by rfl) (hdb : (x == ("__debug__" : Str)) = false := by decide)
    (hall : (backToKw pos (keywordEach kws X.env)).all (·.1.isSome) = true := by rfl) (hks : (backToKw pos (keywordEach kws X.env)).filterMap (·.1) = ks := by rfl)
    (hpl : ((backTo pos (starEach [] X.env)).any (·.1) || (backToKw pos (keywordEach kws X.env)).any (·.1.isNone)) = false := by rfl) :
    PE X (.Call (.Name x p) [] kws pos) (tMakeK C 0 ks.length sp gV E0 tNil tk) := pe_makeK0 D.mkr D.ok hr hg D.mg hb pass0 hkw hall hks hdb hpl
end
end Lm

namespace Lm
open PySem L2
section
variable {X : Cx} {C : Addr} {bmB : List Value} {B newId initId : String}
/-- X(), X an own exception class without own __init__ -/
theorem pmk_own0 {x : Str} {p pos : Pos} (F : ExcBaseFacts B newId initId bmB) (q : PySem.W.excIn X.K C bmB newId = true) (gC : X.mg x = some (.ref C)) (kC : PySem.W.keepIn X.K (.ref C) = true) (r : Raises X (.ref C)) (hg : Gl X x := by rfl) (hdb : (x == ("__debug__" : Str)) = false := by decide) :
    PMk X (.Call (.Name x p) [] [] pos) (fun _ H Q => Q (.ref C) none H) := by
  intro pins s σ H Q I h
  refine wpAny_Call_Name_kw (ld_glob I hg gC ?_ hdb)
  refine PySem.W.callWith_K0 (first := []) I.kIn kC ?_
  show wpAny _ _ (call (.ref C) []) _ _ _
  obtain ⟨bm, N, nm, qn, bs, hdct, sn, sub, ab, col, dd, k0, k1, k2, k3, k5, mN, hC, hN, hni, T⟩ := exc_obj I.kIn q
  refine wpAny_call_exc_subT F T hC hN hni (fun h' e hm => ?_) (Nat.zero_le _)
  exact mk_of I hm r h (I.hok.gone hm.new)
end
/-- what the text says of an own error -/
structure ErrTxt (K : PySem.W.Frag) (mg : Str → Option Value) (x : Str) (C : Addr) : Prop where
  g : mg x = some (.ref C)
  xi : PySem.W.excIn K C [.type "ValueError", .type "Exception", .type "BaseException", .type "object"] "ValueError.__new__" = true
  kp : PySem.W.keepIn K (.ref C) = true
  b : PySem.W.subIn K (.ref C) (.type "BaseException") = some true
  t : PySem.W.typeIn K (.ref C) = some (.type "type")
  ic : PySem.W.isClsIn K C = true
  self : PySem.W.subIn K (.ref C) (.ref C) = some true
/-- an error of the class at S is what «except S» names -/
theorem exm_self {K : PySem.W.Frag} {S : Addr} (h1 : PySem.W.subIn K (.ref S) (.type "BaseException") = some true) (h2 : PySem.W.isClsIn K S = true) (h3 : PySem.W.typeIn K (.ref S) = some (.type "type")) (h4 : PySem.W.subIn K (.ref S) (.ref S) = some true) :
    PySem.W.exmOne K (.ref S) (.ref S) = some true := by
  have e1 : (PySem.W.subIn K (.ref S) (.type "BaseException") == some true) = true := by rw [h1] <;> rfl
  have e2 : ((PySem.W.clsIn K S).isSome && PySem.W.typeIn K (.ref S) == some (.type "type")) = true := by
    have h2' : (PySem.W.clsIn K S).isSome = true := h2
    rw [h2', h3] <;> rfl
  show (if (PySem.W.subIn K (.ref S) (.type "BaseException") == some true) = true then (if ((PySem.W.clsIn K S).isSome && PySem.W.typeIn K (.ref S) == some (.type "type")) = true then PySem.W.subIn K (.ref S) (.ref S) else none) else none) = some true
  rw [if_pos e1, if_pos e2]
  exact h4
theorem ErrTxt.exm {K : PySem.W.Frag} {mg : Str → Option Value} {x : Str} {C : Addr} (T : ErrTxt K mg x C) : PySem.W.exmOne K (.ref C) (.ref C) = some true := exm_self T.b T.ic T.t T.self
theorem ErrTxt.call {X : Cx} {x : Str} {C : Addr} {p pos : Pos} (T : ErrTxt X.K X.mg x C) (hg : Gl X x := by rfl) (hdb : (x == ("__debug__" : Str)) = false := by decide) : PMk X (.Call (.Name x p) [] [] pos) (fun _ H Q => Q (.ref C) none H) :=
  pmk_own0 PySem.F.excBase_ValueError T.xi T.g T.kp (raises_own T.b T.t) hg hdb
/-! ### defs and methods that raise -/
structure DefOkX (P : Program) (w : World) (K : PySem.W.Frag) (mg : Str → Option Value) (base : Heap) (k : Nat) (x : Str) (f : Addr) (fd : FuncData) (ps : List Str) (sp : Sp) : Prop where
  ok : FnOk P w K mg base (L2.CX P w) k f fd ps sp
  kp : PySem.W.keepIn K (.ref f) = true
  bd : Binds K fd ps []
  mg : mg x = some (.ref f)
structure MetOkX (P : Program) (w : World) (K : PySem.W.Frag) (mg : Str → Option Value) (base : Heap) (k : Nat) (C : Addr) (m : Str) (f : Addr) (fd : FuncData) (ps : List Str) (sp : Sp) : Prop where
  ok : FnOk P w K mg base (L2.CX P w) k f fd ps sp
  bd : Binds K fd ps []
  mt : Meth K C m f
  cl : Cls K C
/-- o.m(e, ..) that may raise, at the slots -/
def tMethE (C : Addr) (m : Str) (sp : Sp) (E : St → XK) (ta : TE) (t : TA) : TE := fun σ H Q => ta σ H fun x H1 => ∃ a dx fs, x = .ref a ∧ H1 a = some (.ins C dx fs) ∧ fs.lookup m = none ∧ t σ H1 fun vs H2 => sp (.ref a :: vs) H2 Q (E σ)
/-- o.m(k = v, ..) -/
def tMethK (C : Addr) (m : Str) (n : Nat) (sp : Sp) (gV : List V → List V → List V) (E : XK) (ta : TE) (tk : TA) : TE := fun σ H Q => ta σ H fun x H1 => ∃ a dx fs, x = .ref a ∧ H1 a = some (.ins C dx fs) ∧ fs.lookup m = none ∧ tk σ H1 fun zs H2 => zs.length = n ∧ sp (gV [.ref a] zs) H2 Q E
section
variable {X : Cx} {k : Nat} {f C : Addr} {fd : FuncData} {ps ks : List Str} {sp : Sp} {E : XK} {x m : Str} {p pos apos : Pos} {e o : Expr} {es : List Expr} {kws : List Keyword} {ta : TE} {t tk : TA} {g : List Value → List Value → List Value} {gV : List V → List V → List V}
theorem pe_dX (D : DefOkX X.prog X.w X.K X.mg X.base k x f fd ps sp) (hr : Room k X.A) (hx : Passes (L2.CX X.prog X.w) X E) (ha : PA X (e :: es) t) (hg : Gl X x := by rfl) (hdb : (x == ("__debug__" : Str)) = false := by decide)
    (he : starEach (e :: es) X.env = (false, eval e X.env) :: starEach es X.env := by rfl) (hpl : (backTo pos (starEach es X.env)).any (·.1) = false := by rfl) :
    PE X (.Call (.Name x p) (e :: es) [] pos) (tCall sp [] E t) := pe_call D.ok hr hg D.mg D.kp D.bd .nil hx ha hdb he hpl
theorem pe_mX {pl : Sem Bool} {E : St → XK} (D : MetOkX X.prog X.w X.K X.mg X.base k C m f fd ps sp) (hr : Room k X.A) (hx : ∀ σ, PassesAt (L2.CX X.prog X.w) X σ (E σ)) (he : PE X o ta) (ha : PA X (e :: es) t)
    (hst : starEach (e :: es) X.env = (false, eval e X.env) :: starEach es X.env := by rfl) (hpl : (backTo pos (starEach es X.env)).any (·.1) = false := by rfl)
    (ht : eval (.Call (.Attribute o m apos) (e :: es) [] pos) X.env = (do
      let ov ← eval o X.env
      standAt apos.atName
      let (f, first) ← holding [ov] (getMethod ov m pl)
      callWith pos f first (backTo pos (starEach (e :: es) X.env)) (backToKw pos (keywordEach [] X.env))) := by rfl) :
    PE X (.Call (.Attribute o m apos) (e :: es) [] pos) (tMethE C m sp E ta t) := by
  refine ⟨fun pins s σ H Q I h => ?_⟩
  refine PySem.W.methodCall_KW (pl := pl) (thn (he.run pins s σ H _ I h) fun u s1 ⟨x, H1, I1, rx, a, dx, fs, ex, ea, l, q⟩ => ?_) ht
  subst ex
  obtain rfl : u = Value.ref a := rx
  refine getmeth_ok I1 ea D.cl D.mt l ?_
  refine PySem.W.callWith_K (first := [.ref a]) (h₀ := X.base) I.ok.mod.kin D.mt.kp (thn (ha.run pos pins s1 σ H1 _ I1 q) fun us s2 ⟨vs, H2, I2, r, q2⟩ => ⟨I2.kIn, ?_⟩) hst hpl
  exact run_fnS (us := .ref a :: us) (vs := .ref a :: vs) D.ok hr D.bd (hx σ) I2 (.cons rfl r) q2
theorem pe_mk_ {pl : Sem Bool} (D : MetOk X.prog X.w X.K X.mg X.base k C m f fd ps sp) (hb : KBn X.K fd ps 1 ks g gV) (hr : Room k X.A) (he : PE X o ta) (hkw : PK X kws tk)
    (hall : (backToKw pos (keywordEach kws X.env)).all (·.1.isSome) = true := by rfl) (hks : (backToKw pos (keywordEach kws X.env)).filterMap (·.1) = ks := by rfl)
    (hpl : ((backTo pos (starEach [] X.env)).any (·.1) || (backToKw pos (keywordEach kws X.env)).any (·.1.isNone)) = false := by rfl)
    (ht : eval (.Call (.Attribute o m apos) [] kws pos) X.env = (do
      let ov ← eval o X.env
      standAt apos.atName
      let (f, first) ← holding [ov] (getMethod ov m pl)
      callWith pos f first (backTo pos (starEach [] X.env)) (backToKw pos (keywordEach kws X.env))) := by rfl) :
    PE X (.Call (.Attribute o m apos) [] kws pos) (tMethK C m ks.length sp gV E0 ta tk) := by
  refine ⟨fun pins s σ H Q I h => ?_⟩
  refine PySem.W.methodCall_KW (pl := pl) (thn (he.run pins s σ H _ I h) fun u s1 ⟨x, H1, I1, rx, a, dx, fs, ex, ea, l, q⟩ => ?_) ht
  subst ex
  obtain rfl : u = Value.ref a := rx
  refine getmeth_ok I1 ea D.cl D.mt l ?_
  refine PySem.W.callWith_KW0 (first := [.ref a]) (h₀ := X.base) I.ok.mod.kin D.mt.kp hall ?_ hpl
  refine thn (hkw.run pos pins s1 σ H1 _ I1 q) fun ws s2 ⟨zs, H2, I2, rz, l2, q2⟩ => ⟨I2.kIn, ?_⟩
  rw [hks]
  have r2 := hb.rel (vs := [V.ref a]) (us := [Value.ref a]) (.cons rfl .nil) rz
  show wpAny _ _ (call (.ref f) [.ref a] (ks.zip ws)) _ _ _
  refine wpAny_call (codeAny_mono (D.ok.run X.A X.stack s2 H2 ⟨[.ref a], ks.zip ws⟩ (g [.ref a] ws) (gV [.ref a] zs) Q E0 hr I2.env0 (hb.to s2 [.ref a] ws I2.kIn rfl (rz.length.symm.trans l2)) r2 q2) fun r s' hq => ?_)
  cases r with
  | error e => exact pass0 pins σ H2 s2 e s' I2 hq
  | ok fl =>
    cases fl with
    | ret u => exact I2.after hq
    | next => exact False.elim hq
    | brk => exact False.elim hq
    | cont => exact False.elim hq
end
/-- one keyword alone -/
def oneR {α : Type} (us ws : List α) : List α := us ++ ws
theorem Fun.kone {K : PySem.W.Frag} {x qual : Str} {st : Stmt} {f : Addr} {fd : FuncData} {ps : List Str} {k1 : Str} (F : Fun K x qual st f fd)
    (h : ∀ (kV doc pm : Value) (an : Option Addr) (cdv ct : Value) (a b : Value), bindArgs (PySem.W.fnOf x qual (defArgs st) (defBody st) (defScope st) .none kV doc pm an cdv ct) ⟨[a], [(k1, b)]⟩ = pure (ps.zip [a, b])) : KBn K fd ps 1 [k1] oneR oneR := by
  obtain ⟨oc, od, kV, doc, pm, an, cdv, ct, osl, rfl, lk, hcd⟩ := F.ex
  refine ⟨fun s us ws X l1 l2 => ?_, fun r1 r2 => vals_app r1 r2⟩
  match us, ws, l1, l2 with
  | [a], [b], _, _ => exact .of_eq (h kV doc pm an cdv ct a b)
end Lm

namespace Lm
open PySem L2 PyProof.Rows PySem.Spec
theorem tuple_mul_same (l : Addr) (items : Array Value) (n : Nat) (dd : Option Addr) (sl : Array (Option Value)) (x : Int) (u : Tok) (c0 : (decide (x < -(2 ^ 63)) || decide (x ≥ 2 ^ 63)) = false) (c1 : (items.isEmpty || x == 1) = true) :
    Meets (Builtin.«tuple.__mul__» ⟨[.ref l, .int x u], []⟩) (fun _ R s => s.heap.get? l = some { cls := .type "tuple", dict := dd, data := .seq items n, slots := sl } ∧ R (.ok (.ret (Value.ref l))) s) :=
  .of_wp fun prog w A R s h => by
    obtain ⟨hp, g, d, tk, os⟩ := s
    obtain ⟨hl, h⟩ := h
    have f1 := AutoSeq1.idx_int
    wp_walk using wpAny_loadPart' hl, wpAny_load hl
    repeat (first
      | (refine wpAny_ite_false (decide_eq_false (by rw [c0]; exact Bool.false_ne_true)) ?_; wp_walk using wpAny_loadPart' hl, wpAny_load hl)
      | (refine wpAny_ite_true (decide_eq_true (by rw [c1])) ?_; wp_walk using wpAny_loadPart' hl, wpAny_load hl))
    all_goals first | exact ⟨_, rfl, h⟩ | exact h | skip
theorem tuple_mul_zero (l : Addr) (items : Array Value) (n : Nat) (dd : Option Addr) (sl : Array (Option Value)) (x : Int) (u : Tok) (c0 : (decide (x < -(2 ^ 63)) || decide (x ≥ 2 ^ 63)) = false) (c1 : (items.isEmpty || x == 1) = false) (c2 : (decide (x ≤ 0) || items.isEmpty) = true) :
    Meets (Builtin.«tuple.__mul__» ⟨[.ref l, .int x u], []⟩) (fun _ R s => s.heap.get? l = some { cls := .type "tuple", dict := dd, data := .seq items n, slots := sl } ∧ 
      R (.ok (.ret (Value.ref s.heap.objs.size))) { s with heap := s.heap.push { cls := Value.type "tuple", data := Data.seq #[] }, toks := s.toks }) :=
  .of_wp fun prog w A R s h => by
    obtain ⟨hp, g, d, tk, os⟩ := s
    obtain ⟨hl, h⟩ := h
    have f1 := AutoSeq1.idx_int
    wp_walk using wpAny_loadPart' hl
    repeat (first
      | (refine wpAny_ite_false (decide_eq_false (by rw [c0]; exact Bool.false_ne_true)) ?_; wp_walk using wpAny_loadPart' hl)
      | (refine wpAny_ite_false (decide_eq_false (by rw [c1]; exact Bool.false_ne_true)) ?_; wp_walk using wpAny_loadPart' hl)
      | (refine wpAny_ite_true (decide_eq_true (by rw [c2])) ?_; wp_walk using wpAny_loadPart' hl))
    all_goals first | exact ⟨_, rfl, h⟩ | exact h | skip
def rRepTA (K : PySem.W.Frag) : R2 := fun x y H Q => ∃ l k xs, x = .ref l ∧ y = .int k ∧ SqT K H l xs ∧ 0 ≤ k ∧ k ≤ 1000 ∧ xs.length ≤ 1000 ∧ ((xs = [] ∨ k = 1) → Q (.ref l) H) ∧ (¬ (xs = [] ∨ k = 1) → ∀ p, H p = none → Q (.ref p) (upd H p (.tup (List.replicate k.toNat xs).flatten)))
section
variable {X : Cx}
theorem op_repTA : OpR X (binaryOp .Mult) (rRepTA X.K) := by
  intro pins s σ H x y v u Q I rx ry h
  obtain ⟨l, k, xs, rfl, rfl, hT, h1, h2, hz, q1, q2⟩ := h
  by_cases hsame : xs = [] ∨ k = 1
  · have q1 := q1 hsame
    cases rx
    obtain ⟨t, rfl⟩ := ry
    obtain ⟨its, r, ⟨⟨cls, dd, data, sl⟩, ho, hc, n, hd⟩, hs⟩ := I.tuple hT
    simp only at hc hd
    subst hc hd
    have hle : its.length = xs.length := r.length.symm
    have c0 : (decide (k < -(2 ^ 63)) || decide (k ≥ 2 ^ 63)) = false := by
      rw [decide_eq_false (by omega), decide_eq_false (by omega)] <;> rfl
    have c1 : (its.toArray.isEmpty || k == 1) = true := by
      rcases hsame with e | e
      · rw [e] at hle
        have : its = [] := List.eq_nil_of_length_eq_zero hle
        rw [this]
        rfl
      · rw [e]
        cases its <;> rfl
    refine wpAny_binaryOp_repeat_ref (T := "tuple") (U := "int") (by decide) ⟨_, ho, rfl⟩ (fun s' => typeIs_int s' k t) noFill_tuple_mul F.fills_int_mul F.slot_int_rmul repeat_tuple F.slot_int_index.lookup
      (call_meets F.slot_int_rmul (typeIs_int s k t) F.entry_int_rmul (F.args_int_rmul_2 _ _) (int_rmul_tuple k t l its.toArray n dd sl)
        ⟨ho, rfl, ⟨_, ho, rfl⟩, call_meets F.slot_tuple_mul ⟨_, ho, rfl⟩ F.entry_tuple_mul (F.args_tuple_mul_2 _ _) (tuple_mul_same l its.toArray n dd sl k t c0 c1) ⟨ho, ?_⟩⟩)
    exact ⟨.ref l, H, I, rfl, q1⟩
  · have q2 := q2 hsame
    have hne : xs ≠ [] := fun e => hsame (.inl e)
    have hk1 : k ≠ 1 := fun e => hsame (.inr e)
    by_cases hk : 2 ≤ k
    · exact op_repT pins s σ H _ _ v u Q I rx ry ⟨l, k, xs, rfl, rfl, hT, hne, hk, h2, hz, q2⟩
    · have hk0 : k = 0 := by omega
      subst hk0
      cases rx
      obtain ⟨t, rfl⟩ := ry
      obtain ⟨its, r, ⟨⟨cls, dd, data, sl⟩, ho, hc, n, hd⟩, hs⟩ := I.tuple hT
      simp only at hc hd
      subst hc hd
      have hle : its.length = xs.length := r.length.symm
      have hn : its ≠ [] := fun e => hne (by
        rw [e] at hle
        exact List.eq_nil_of_length_eq_zero hle.symm)
      have hi : its.toArray.isEmpty = false := by
        cases its with
        | nil => exact absurd rfl hn
        | cons a b => rfl
      refine wpAny_binaryOp_repeat_ref (T := "tuple") (U := "int") (by decide) ⟨_, ho, rfl⟩ (fun s' => typeIs_int s' 0 t) noFill_tuple_mul F.fills_int_mul F.slot_int_rmul repeat_tuple F.slot_int_index.lookup
        (call_meets F.slot_int_rmul (typeIs_int s 0 t) F.entry_int_rmul (F.args_int_rmul_2 _ _) (int_rmul_tuple 0 t l its.toArray n dd sl)
          ⟨ho, rfl, ⟨_, ho, rfl⟩, call_meets F.slot_tuple_mul ⟨_, ho, rfl⟩ F.entry_tuple_mul (F.args_tuple_mul_2 _ _) (tuple_mul_zero l its.toArray n dd sl 0 t (by decide) (by rw [hi]; rfl) (by rw [hi]; rfl)) ⟨ho, ?_⟩⟩)
      refine ⟨.ref s.heap.objs.size, _, I.laid (t' := s.toks) (o := .tup (List.replicate (0 : Int).toNat xs).flatten) (fun b ob q => Heap.get?_push_of_some _ q) (Nat.le_refl _) ?_, rfl, q2 _ (I.hok.fresh (Nat.le_refl _))⟩
      exact ⟨by show 0 ≤ sizeLine; decide, _, .nil, IsTup.new _ _⟩
end
end Lm

namespace Lm
open PySem L2 Evl
/-! ### own errors whose __init__ keeps one thing -/
/-- what the text says of an own error with __init__ -/
structure ErrF (K : PySem.W.Frag) (mg : Str → Option Value) (x : Str) (C fI : Addr) (fn : Str) : Prop where
  g : mg x = some (.ref C)
  T : OexC K C
  X : XfC K C
  ini : PySem.W.findIn K (.ref C) "__init__" = some (some (.ref fI))
  ty : PySem.W.typeIn K (.ref fI) = some (.type "function")
  no : PySem.W.findIn K (.ref C) fn = some none
  ic : PySem.W.isClsIn K C = true
  self : PySem.W.subIn K (.ref C) (.ref C) = some true
theorem ErrF.exm {K : PySem.W.Frag} {mg : Str → Option Value} {x : Str} {C fI : Addr} {fn : Str} (T : ErrF K mg x C fI fn) : PySem.W.exmOne K (.ref C) (.ref C) = some true := exm_self T.T.exC T.ic T.T.tyC T.self
def spErrI (C : Addr) (fn : Str) : Sp := fun vs H Q _ => ∃ (a : Addr) (v : V), vs = [.ref a, v] ∧ H a = some (exo a C none) ∧ ∀ dx, H dx = none → dx ≠ a → Q .non (upd (upd H dx (exd dx [(fn, v)])) a (exo a C (some dx)))
theorem go_mkO {C : Addr} {fn : Str} {te : TE} {σ : L2.St} {H : Hp} {Q : XK} {v : V} (h : Ev te σ H v) (k : ∀ H1 d, Ex H H1 → H1 d = none → Q (.ref C) (some d) (upd H1 d (.xd [(fn, v)]))) : tMkO C (spErrI C fn) [] (tCons te tNil) σ H Q :=
  h H (Ex.refl H) _ fun H1 e1 => ⟨by show 1 ≤ 1000; decide, fun a na => ⟨a, v, rfl, upd_same, fun dx ndx hda => ⟨rfl, dx, [(fn, v)], upd_same, by rw [upd_ne hda]; exact upd_same, by rw [upd_ne hda] at ndx; exact ndx, by
    have hn : H1 dx = none := by rw [upd_ne hda] at ndx; exact ndx
    have e : upd (del (upd (upd (upd H1 a (exo a C none)) dx (exd dx [(fn, v)])) a (exo a C (some dx))) a) dx (.xd [(fn, v)]) = upd H1 dx (.xd [(fn, v)]) := by
      funext b
      by_cases hb : b = dx
      · subst hb
        rw [upd_same, upd_same]
      · rw [upd_ne hb, upd_ne hb]
        by_cases hba : b = a
        · subst hba
          rw [del_same, na]
        · rw [del_ne hba, upd_ne hba, upd_ne hb, upd_ne hba]
    rw [e]
    exact k H1 dx e1 hn⟩⟩⟩
end Lm

namespace Lm
open PySem L2 PyProof.Rows PySem.Spec
section
variable {M : Model} {A : Around} {E : Value → Shared → Prop} {s : Shared} {K : PySem.W.Frag} {pos : Pos} {x C : Addr} {first : List Value} {Q : Value → Shared → Prop}
/-- the instance as it stands at each time -/
def InsK (K : PySem.W.Frag) (x C : Addr) (h : Heap) : Prop := ∃ ox od, K.In h ∧ PySem.W.InstAt h x ox C od ∧ ox.data = .plain
theorem callWith_ins {args : List (Bool × Sem Value)} {keywords : List (Option Str × Sem Value)} (hplain : (args.any (·.1) || keywords.any (·.1.isNone)) = false)
    (h : wpAny M A (evalArgs (.ref x) true args keywords) (fun a s₁ => InsK K x C s₁.heap ∧ wpAny M A (call (.ref x) (first ++ a.pos) a.kw) Q E s₁) E s) : wpAny M A (callWith pos (.ref x) first args keywords) Q E s := by
  unfold callWith
  refine wpAny_bind (wpAny_holding (wpAny_mono h (fun a s₁ h₁ => wpAny_bind (wpAny_standAt ?_)) fun _ _ y => y))
  obtain ⟨⟨ox, od, X, I, hd⟩, hc⟩ := h₁
  have L := PySem.W.kco_keeper (M := M) I hd
  simp only [hplain]
  refine wpAny_bind (L.here ?_)
  exact wpAny_bind (wpAny_mono (wpAny_operateT hc) (fun r s₂ hr => wpAny_bind (wpAny_holding (wpAny_point (wpAny_pure hr)))) fun _ _ y => y)
end
/-- what the text says of own __call__ -/
structure CallM (K : PySem.W.Frag) (C g : Addr) : Prop where
  at_ : PySem.W.findIn K (.ref C) "__call__" = some (some (.ref g))
  isF : PySem.W.isFn K (.ref g) = true
  fn : PySem.W.fnIn K g = true
/-- the i-th slot holds an instance, which is called -/
def tCallO (i : Nat) (C : Addr) (sp : Sp) (E : L2.St → XK) (t : TA) : TE := fun σ H Q => ∃ a, σ[i]? = some (some (.ref a)) ∧ t σ H fun vs H1 => (∃ dx fs, H1 a = some (.ins C dx fs)) ∧ sp (.ref a :: vs) H1 Q (E σ)
def tCallOk (i : Nat) (C : Addr) (n : Nat) (sp : Sp) (gV : List V → List V → List V) (E : XK) (tk : TA) : TE := fun σ H Q => ∃ a, σ[i]? = some (some (.ref a)) ∧ tk σ H fun zs H1 => (∃ dx fs, H1 a = some (.ins C dx fs)) ∧ zs.length = n ∧ sp (gV [.ref a] zs) H1 Q E
section
variable {X : Cx} {CX : CXT} {k i : Nat} {f C : Addr} {fd : FuncData} {ps ks : List Str} {sp : Sp} {x : Str} {p pos : Pos} {e : Expr} {es : List Expr} {kws : List Keyword} {t tk : TA} {g : List Value → List Value → List Value} {gV : List V → List V → List V}
theorem ins_k {pins : List (Addr × Obj)} {σ : L2.St} {H : Hp} {s : Shared} {a dx : Addr} {fs : List (Str × V)} (I : Inv X pins σ H s) (h : H a = some (.ins C dx fs)) : InsK X.K a C s.heap := by
  obtain ⟨mA, O, r, _, _, _⟩ := ins_get I.hok h
  obtain ⟨od, hI, _⟩ := O.look
  exact ⟨_, _, I.kIn, hI, rfl⟩
theorem pe_callO {E : L2.St → XK} (F : FnOk X.prog X.w X.K X.mg X.base CX k f fd ps sp) (hm : CallM X.K C f) (hr : Room k X.A) (hb : Binds X.K fd ps []) (hx : ∀ σ, PassesAt CX X σ (E σ)) (hN : X.N[i]? = some x) (hv : Vis X.env.scope x) (ha : PA X (e :: es) t)
    (hdb : (x == ("__debug__" : Str)) = false := by decide) (hcd : (x == ("__classdict__" : Str)) = false := by decide)
    (he : starEach (e :: es) X.env = (false, eval e X.env) :: starEach es X.env := by rfl) (hpl : (backTo pos (starEach es X.env)).any (·.1) = false := by rfl) : PE X (.Call (.Name x p) (e :: es) [] pos) (tCallO i C sp E t) := by
  refine ⟨fun pins s σ H Q I h => ?_⟩
  obtain ⟨a, hs, ht⟩ := h
  refine wpAny_Call_Name_kw (thn ((pe_var (pos := p) hN hv hdb hcd).run pins s σ H (fun v H1 => v = .ref a ∧ H1 = H) I ⟨.ref a, hs, rfl, rfl⟩) fun u s1 ⟨v, H1, I1, r1, q1⟩ => ?_)
  obtain ⟨rfl, rfl⟩ := q1
  cases r1
  rw [he]
  refine callWith_ins (K := X.K) (C := C) (by show ((false || (backTo pos (starEach es X.env)).any (·.1)) || false) = false; rw [hpl]; rfl) (PySem.Calls.evalArgs_plain ?_)
  have := ha.run pos pins s1 σ _ _ I1 ht
  rw [he] at this
  refine thn this fun us s2 ⟨vs, H2, I2, r, hi, q⟩ => ?_
  obtain ⟨dx, fs, hi⟩ := hi
  refine ⟨ins_k I2 hi, ?_⟩
  obtain ⟨ox, od, X1, J, hd⟩ := ins_k I2 hi
  have r2 : Vals (V.ref a :: vs) (Value.ref a :: us) := .cons rfl r
  have hl : (Value.ref a :: us ++ []).length = ps.length := by rw [List.append_nil, ← r2.length]; exact F.len _ _ _ _ q
  refine wpAny_call (PySem.W.kco_code X1 J hd hm.at_ hm.isF hm.fn ?_)
  refine codeAny_mono (F.run X.A X.stack s2 H2 ⟨Value.ref a :: us, []⟩ (Value.ref a :: us) (V.ref a :: vs) Q (E σ) hr I2.env0 (by have := hb s2 (Value.ref a :: us) I2.kIn hl; rw [List.append_nil] at this; exact this) r2 q) fun r s' hq => ?_
  cases r with
  | error e => exact hx σ pins H2 s2 e s' I2 hq
  | ok fl =>
    cases fl with
    | ret u => exact I2.after hq
    | next => exact False.elim hq
    | brk => exact False.elim hq
    | cont => exact False.elim hq
theorem pe_callOk {E : XK} (F : FnOk X.prog X.w X.K X.mg X.base CX k f fd ps sp) (hm : CallM X.K C f) (hr : Room k X.A) (hb : KBn X.K fd ps 1 ks g gV) (hx : Passes CX X E) (hN : X.N[i]? = some x) (hv : Vis X.env.scope x) (hkw : PK X kws tk)
    (hdb : (x == ("__debug__" : Str)) = false := by decide) (hcd : (x == ("__classdict__" : Str)) = false := by decide)
    (hall : (backToKw pos (keywordEach kws X.env)).all (·.1.isSome) = true := by rfl) (hks : (backToKw pos (keywordEach kws X.env)).filterMap (·.1) = ks := by rfl)
    (hpl : ((backTo pos (starEach [] X.env)).any (·.1) || (backToKw pos (keywordEach kws X.env)).any (·.1.isNone)) = false := by rfl) : PE X (.Call (.Name x p) [] kws pos) (tCallOk i C ks.length sp gV E tk) := by
  refine ⟨fun pins s σ H Q I h => ?_⟩
  obtain ⟨a, hs, ht⟩ := h
  refine wpAny_Call_Name_kw (thn ((pe_var (pos := p) hN hv hdb hcd).run pins s σ H (fun v H1 => v = .ref a ∧ H1 = H) I ⟨.ref a, hs, rfl, rfl⟩) fun u s1 ⟨v, H1, I1, r1, q1⟩ => ?_)
  obtain ⟨rfl, rfl⟩ := q1
  cases r1
  refine callWith_ins (K := X.K) (C := C) hpl (evalArgs_kw2_nil hall ?_)
  refine thn (hkw.run pos pins s1 σ _ _ I1 ht) fun ws s2 ⟨zs, H2, I2, rz, hi, l2, q⟩ => ?_
  obtain ⟨dx, fs, hi⟩ := hi
  rw [hks]
  refine ⟨ins_k I2 hi, ?_⟩
  obtain ⟨ox, od, X1, J, hd⟩ := ins_k I2 hi
  have r2 := hb.rel (vs := [V.ref a]) (us := [Value.ref a]) (.cons rfl .nil) rz
  show wpAny _ _ (call (.ref a) [] (ks.zip ws)) _ _ _
  refine wpAny_call (PySem.W.kco_code X1 J hd hm.at_ hm.isF hm.fn ?_)
  refine codeAny_mono (F.run X.A X.stack s2 H2 ⟨[.ref a], ks.zip ws⟩ (g [.ref a] ws) (gV [.ref a] zs) Q E hr I2.env0 (hb.to s2 [.ref a] ws I2.kIn rfl (rz.length.symm.trans l2)) r2 q) fun r s' hq => ?_
  cases r with
  | error e => exact hx pins σ H2 s2 e s' I2 hq
  | ok fl =>
    cases fl with
    | ret u => exact I2.after hq
    | next => exact False.elim hq
    | brk => exact False.elim hq
    | cont => exact False.elim hq
end
end Lm

namespace Lm
open PySem L2 LamX PySem.Spec PyProof.Rows
/-! ### a lambda handed to a def that handles its errors: what is wished of an error may speak of the def's own slots -/
section
variable {X : Cx} {pins : List (Addr × Obj)} {σ : L2.St} {H : Hp} {s : Shared}
theorem pe_actS {CXg : CXT} {Eg : XK} {Ng : List Str} {qg : Str} {sg : Scope} {g f c' : Addr} {cdg pm ctv : Value} {params : Arguments} {body : Expr} {scope : Scope} {k i : Nat} {a : Str} {pn : List (Addr × Obj)} {xe : Value → Shared → Prop} {W : WX} {tb : XK → TE} {p1 p2 : Pos}
    (I : Inv X pins σ H s) (L : LamS X.env.scope scope) (hf : s.heap.get? f = some (PySem.W.kla_obj "<lambda>" (X.env.qual ++ "<lambda>") params body scope (cloFrom X.env.cells scope.names []) pm c' ctv)) (hfn : H f = none) (hfr : f ∉ frs X.stack)
    (hbind : bindArgs (PySem.W.kla_fn "<lambda>" (X.env.qual ++ "<lambda>") params body scope (cloFrom X.env.cells scope.names []) pm (.ref c') ctv) ⟨[], []⟩ = pure [])
    (tk : Takes ((cxOf CXg X.prog X.w X.K X.mg X.base Ng qg sg g cdg X.A X.stack s H Eg).tr pn xe) W) (hr : Room (k + 1) (X.A.deeper (envOfC qg sg s.heap.objs.size g cdg)))
    (hbody : ∀ (E : XK) (A : Around) (outer : List Env) (s : Shared) (H : Hp), Room k (A.deeper (lamEnv X scope s.heap.objs.size f c')) → PE (lamCx X A outer s H E scope f c') body (tb E))
    (hN : Ng[i]? = some a) (hv : Vis sg a) (hd : (a == ("__debug__" : Str)) = false := by decide) (hcd : (a == ("__classdict__" : Str)) = false := by decide) :
    PE ((cxOf CXg X.prog X.w X.K X.mg X.base Ng qg sg g cdg X.A X.stack s H Eg).tr pn xe) (.Call (.Name a p1) [] [] p2)
      (fun σZ HZ Q => σZ[i]? = some (some (.ref f)) ∧ HZ c' = some (CodeO c' (X.env.qual ++ "<lambda>")) ∧ tb (WE W σZ) σ HZ Q) := by
  refine ⟨fun pinsZ sZ σZ HZ Q IZ h => ?_⟩
  obtain ⟨hs, hc, ht⟩ := h
  refine wpAny_Call_Name_kw (thn ((pe_var (pos := p1) (i := i) hN hv hd hcd).run pinsZ sZ σZ HZ (fun v H1 => v = .ref f ∧ H1 = HZ) IZ ⟨.ref f, hs, rfl, rfl⟩) fun u s1 ⟨v, H1, I1, r1, q1⟩ => ?_)
  obtain ⟨ev, eH⟩ := q1
  subst ev
  rw [eH] at I1
  obtain rfl : u = Value.ref f := r1
  have of1 := I1.base.keep f _ hf hfn hfr (fun z => nomatch (show f ∈ ([] : List Addr) from z))
  refine PySem.W.callWith_F0 ⟨_, _, _, _, of1⟩ ?_
  have un : Un (frs X.stack) [] H HZ s.heap s1.heap := I1.base
  obtain ⟨⟨oc, vs, t, hoc, hdc, hvc⟩, _, _⟩ := I1.hok c' _ hc
  have rc : codeAny (model X.prog X.w) (X.A.deeper (envOfC qg sg s.heap.objs.size g cdg)) (.call (.ref f) ⟨[], []⟩) (CR (L2.CX X.prog X.w) (envOfC qg sg s.heap.objs.size g cdg :: X.stack) X.prog X.w HZ s1 Q (WE W σZ)) s1 := by
    refine PySem.W.kla_callFunE hr.depth of1 rfl L.co L.gen rfl ⟨c', oc, vs, t, rfl, hoc, hdc, hvc⟩ ?_
    rw [hbind]
    refine wpAny_pure (wpAny_newFunctionEnv (fun y hy => (L.own y hy).2) (fun y hy => absurd hy (by simp)) (fun h₁ hns hsb => ⟨I1.nolimit.fresh _ hsb, ?_⟩) L.kind)
    show codeAny _ _ (.expr body (lamEnv X scope s1.heap.objs.size f c')) _ _
    have kp : ∀ b o, s1.heap.get? b = some o → h₁.get? b = some o := fun b o e => hsb.extBut b o (Nat.ne_of_lt (Heap.lt_size e)) (Heap.get?_push_of_some _ e)
    have J : Inv (lamCx X (X.A.deeper (envOfC qg sg s.heap.objs.size g cdg)) (envOfC qg sg s.heap.objs.size g cdg :: X.stack) s1 HZ (WE W σZ) scope f c') [] σ HZ { s1 with heap := h₁, toks := s1.toks + ([] : List (Str × Value)).length } :=
      lam_start2 I L I1.env0 hr.hd un hns kp
    refine PySem.W.kla_codeExpr (wpAny_mono ((hbody _ _ _ s1 HZ (hr.deeper _)).run [] _ _ HZ Q J ht) (fun v s' hq => ?_) fun e s' hq => hq)
    obtain ⟨w', H', J', rv, q⟩ := hq
    exact ⟨w', H', J'.os, J'.bare, J'.base, J'.hok, rv, q⟩
  have hx : PassesAt (L2.CX X.prog X.w) ((cxOf CXg X.prog X.w X.K X.mg X.base Ng qg sg g cdg X.A X.stack s H Eg).tr pn xe) σZ (WE W σZ) := passAt tk σZ
  refine wpAny_call (codeAny_mono rc fun r s' hq => ?_)
  cases r with
  | error e => exact hx pinsZ HZ s1 e s' I1 hq
  | ok fl =>
    cases fl with
    | ret u => exact I1.after hq
    | next => exact False.elim hq
    | brk => exact False.elim hq
    | cont => exact False.elim hq
/-- the def that calls what it got, and handles its errors with its own slots at hand -/
def GivesToS (X : Cx) (Ng : List Str) (x : Str) (sg : Scope) (g : Addr) (cdg : Value) (bg : List Stmt) (a : Str) (q : Str) (TT : (XK → Hp → VK → Prop) → Hp → VK → Prop) : Prop :=
  ∀ (f c' : Addr) (s : Shared) (H : Hp) (Q : VK) (tl : XK → Hp → VK → Prop),
    (∀ (W : WX) (pn : List (Addr × Obj)) (xe : Value → Shared → Prop) (p1 p2 : Pos), Takes ((cxOf C8.CX0 X.prog X.w X.K X.mg X.base Ng x sg g cdg X.A X.stack s H C8.E0).tr pn xe) W →
      PE ((cxOf C8.CX0 X.prog X.w X.K X.mg X.base Ng x sg g cdg X.A X.stack s H C8.E0).tr pn xe) (.Call (.Name a p1) [] [] p2) (fun σZ HZ Q => σZ[0]? = some (some (.ref f)) ∧ HZ c' = some (CodeO c' q) ∧ tl (WE W σZ) HZ Q)) →
    H c' = some (CodeO c' q) → TT tl H Q →
    ∃ t, PSs (cxOf C8.CX0 X.prog X.w X.K X.mg X.base Ng x sg g cdg X.A X.stack s H C8.E0).nox bg t ∧ t { nx := fun _ H' => Q .non H', rt := Q } (L2.start Ng [.ref f]) H
theorem pe_lamcallS {T : List (Addr × Str)} {TT : (XK → Hp → VK → Prop) → Hp → VK → Prop} {x a : Str} {g c P : Addr} {k : Nat} {pg : Arguments} {bg : List Stmt} {sg : Scope} {dV kV doc pm cdv ct oc : Value} {an od : Option Addr} {osl : Array (Option Value)} {Ng : List Str}
    {params : Arguments} {body : Expr} {scope : Scope} {t : XK → TE} {p lpos pos : Pos} (hg : Gl X x) (hm : X.mg x = some (.ref g)) (hk : PySem.W.keepIn X.K (.ref g) = true)
    (lk : X.K.lookup g = some ⟨oc, od, .func (PySem.W.fnOf x x pg bg sg dV kV doc pm an cdv ct), osl⟩) (hcg : PySem.W.codeIn X.K cdv x = true) (hb : L2.Binds X.K (PySem.W.fnOf x x pg bg sg dV kV doc pm an cdv ct) [a] []) (Sg : FnScope Ng [a] sg) (hNg : Ng[0]? = some a) (hva : Vis sg a)
    (hG : GivesToS X Ng x sg g cdv bg a (X.env.qual ++ "<lambda>") TT)
    (TB : TabB X.base X.mg c P) (hcode : X.env.code = .ref c) (hmT : (P, X.env.qual ++ "<lambda>") ∈ T) (hu : ∀ p ∈ T, p.1 = P → p.2 = X.env.qual ++ "<lambda>") (hr : Room (k + 2) X.A) (L : LamS X.env.scope scope) (hdef : defaultsOf params X.env = ([], []))
    (hbind : ∀ (q : Str) (cl : List (Str × Addr)) (pm cv ctv : Value), bindArgs (PySem.W.kla_fn "<lambda>" q params body scope cl pm cv ctv) ⟨[], []⟩ = pure [])
    (hbody : ∀ (A : Around) (outer : List Env) (s : Shared) (H : Hp) (E : XK) (f c' : Addr), Room k (A.deeper (lamEnv X scope s.heap.objs.size f c')) → PE (lamCx X A outer s H E scope f c') body (t E))
    (hdb : (x == ("__debug__" : Str)) = false := by decide) (hd : (a == ("__debug__" : Str)) = false := by decide) (hcd : (a == ("__classdict__" : Str)) = false := by decide) :
    PE X (.Call (.Name x p) [.Lambda params body scope lpos] [] pos) (tLam T TT t) := by
  refine ⟨fun pins s σ H Q I h => ?_⟩
  obtain ⟨hT, h⟩ := h
  refine wpAny_Call_Name_kw (ld_glob I hg hm ?_ hdb)
  refine PySem.W.callWith_K (h₀ := X.base) I.ok.mod.kin hk ?_ (by rfl) (by rfl)
  show wpAny _ _ (spliced ((false, eval (.Lambda params body scope lpos) X.env) :: backTo pos (starEach [] X.env))) _ _ s
  refine Calls.spliced_cons (lam_make2 I TB hcode hmT hu hT hdef (L.has I.ok) fun f c' pm' ctv H1 s' I1 eN T1 hf hfn hfr hco => ?_)
  refine Calls.spliced_nil ⟨I1.kIn, ?_⟩
  have rc : codeAny (model X.prog X.w) X.A (.call (.ref g) ⟨[.ref f], []⟩) (CR C8.CX0 X.stack X.prog X.w H1 s' Q C8.E0) s' := by
    refine run_ofS (N := Ng) (ps := [a]) (us := [.ref f]) (vs := [.ref f]) lk hcg Sg hr I1.env0 (hb s' [.ref f] I1.kIn rfl) (.cons rfl .nil) rfl fun hr' => ?_
    obtain ⟨t', ht', hq'⟩ := hG f c' s' H1 Q (fun E H' Q' => t E σ H' Q') (fun W pn xe p1 p2 tk => pe_actS (i := 0) I1 L hf hfn hfr (hbind _ _ _ _ _) tk hr' (fun E A outer s H hr2 => hbody A outer s H E f c' hr2) hNg hva hd hcd) hco (h H1 eN T1)
    exact ⟨t', ht'.nox, hq'⟩
  refine wpAny_call (codeAny_mono rc fun r s2 hq => ?_)
  cases r with
  | error e => exact (show False from hq).elim
  | ok fl =>
    cases fl with
    | ret u => exact I1.after hq
    | next => exact False.elim hq
    | brk => exact False.elim hq
    | cont => exact False.elim hq
end
end Lm

namespace Lm
open PySem L2 LamX PySem.Spec PyProof.Rows
section
variable {X : Cx} {A : Around} {outer : List Env} {s : Shared} {H : Hp} {E : XK} {scope : Scope} {f c' : Addr} {k : Nat} {C g : Addr} {fd : FuncData} {ps : List Str} {sp : Sp} {m : Str}
/-- in a lambda's body: what a call raises is the lambda's -/
theorem lam_passes : Passes (L2.CX X.prog X.w) (lamCx X A outer s H E scope f c') E := passes_call (takes_of rfl rfl rfl rfl) fun _ _ _ _ h => h
theorem MetOkX.binL {op : Operator} (D : MetOkX X.prog X.w X.K X.mg X.base k C (PySem.dunder op.info.2) g fd ps sp) (hc : PySem.W.selfFirst X.K C = true) (hr : Room k (lamCx X A outer s H E scope f c').A) : OpR (lamCx X A outer s H E scope f c') (binaryOp op) (rBinOwn C sp E) :=
  op_binOwn (X := lamCx X A outer s H E scope f c') D.ok hc D.mt.at_ D.mt.fn D.bd hr lam_passes
theorem MetOkX.leL (D : MetOkX X.prog X.w X.K X.mg X.base k C "__le__" g fd ps sp) (hr : Room k (lamCx X A outer s H E scope f c').A) : OpR (lamCx X A outer s H E scope f c') (compareOp .LtE) (rBinOwn C sp E) :=
  op_cmpOwn (X := lamCx X A outer s H E scope f c') (fun _ _ => rfl) D.ok D.mt.at_ D.mt.fn D.bd hr lam_passes
theorem MetOkX.ltL (D : MetOkX X.prog X.w X.K X.mg X.base k C "__lt__" g fd ps sp) (hr : Room k (lamCx X A outer s H E scope f c').A) : OpR (lamCx X A outer s H E scope f c') (compareOp .Lt) (rBinOwn C sp E) :=
  op_cmpOwn (X := lamCx X A outer s H E scope f c') (fun _ _ => rfl) D.ok D.mt.at_ D.mt.fn D.bd hr lam_passes
end
/-- a def whose code object is known: what it makes (lambdas) is noted in that object's table -/
theorem okC {P : Program} {w : World} {K : PySem.W.Frag} {mg : Str → Option Value} {base : Heap} {x qual : Str} {st : Stmt} {f c : Addr} {fd : FuncData} {N ps : List Str} {k : Nat} {sp : Sp} (F : L2.Fun K x qual st f fd) (hc : fd.code = Value.ref c) (S : FnScope N ps (defScope st)) (len : ∀ vs H Q E, sp vs H Q E → vs.length = ps.length)
    (hbody : ∀ (A : Around) (outer : List Env) (s : Shared) (H : Hp) (vs : List V) (Q : VK) (E : XK), Room k (A.deeper (envOfC qual (defScope st) s.heap.objs.size f (.ref c))) → sp vs H Q E →
      ∃ t, PSs (cxOf CX0 P w K mg base N qual (defScope st) f (.ref c) A outer s H E).nox (defBody st) t ∧ t { nx := fun _ H' => Q .non H', rt := Q } (L2.start N vs) H) : FnOk P w K mg base CX0 (k + 1) f fd ps sp := by
  obtain ⟨oc, od, kV, doc, pm, an, cdv, ct, osl, rfl, lk, hcd⟩ := F.ex
  have e : cdv = .ref c := hc
  subst e
  refine fn_of lk hcd S len fun A outer s H vs Q E hr hsp => ?_
  obtain ⟨t, h, q⟩ := hbody A outer s H vs Q E hr hsp
  exact ⟨t, h.nox, q⟩
end Lm

namespace Lm
open PySem L2
/-! ### editions as truths over the numbers of the passages -/
def idx (N : Nat) (S : Nat → Bool) : List Nat := (List.range N).filter S
def cnt (S : Nat → Bool) (c : Nat) : Nat := (idx c S).length
def cutsL (N : Nat) (S : Nat → Bool) : List Nat := 0 :: (idx N S).map (· + 1)
def countsL (N : Nat) (S : Nat → Bool) : List Nat := (List.range (N + 1)).map (cnt S)
def ker (S : Nat → Bool) : Nat → Nat
  | 0 => 0
  | c + 1 => if S c = true then c + 1 else ker S c
def no : Str := ⟨#[]⟩
def pick (ws : List Str) (S : Nat → Bool) : List Str := (idx ws.length S).map fun i => ws.getD i no
theorem idx_mem {N : Nat} {S : Nat → Bool} {i : Nat} : i ∈ idx N S ↔ i < N ∧ S i = true := by unfold idx; rw [List.mem_filter, List.mem_range]
theorem idx_sorted (N : Nat) (S : Nat → Bool) : (idx N S).Pairwise (· < ·) := List.Pairwise.filter _ List.pairwise_lt_range
theorem idx_succ (c : Nat) (S : Nat → Bool) : idx (c + 1) S = idx c S ++ (if S c = true then [c] else []) := by
  unfold idx
  rw [List.range_succ, List.filter_append]
  by_cases h : S c = true <;> simp [h]
theorem idx_len (N : Nat) (S : Nat → Bool) : (idx N S).length ≤ N := by
  unfold idx
  exact Nat.le_trans (List.length_filter_le _ _) (by simp)
theorem cnt_zero (S : Nat → Bool) : cnt S 0 = 0 := rfl
theorem cnt_succ (S : Nat → Bool) (c : Nat) : cnt S (c + 1) = cnt S c + if S c = true then 1 else 0 := by
  unfold cnt
  rw [idx_succ, List.length_append]
  by_cases h : S c = true <;> simp [h]
theorem cnt_mono {S : Nat → Bool} {a b : Nat} (h : a ≤ b) : cnt S a ≤ cnt S b := by
  induction b with
  | zero => have : a = 0 := by omega
            subst this; exact Nat.le_refl _
  | succ b ih =>
    rcases Nat.lt_or_ge a (b + 1) with h1 | h1
    · have := ih (by omega)
      rw [cnt_succ]; omega
    · have : a = b + 1 := by omega
      subst this; exact Nat.le_refl _
theorem idx_pre (S : Nat → Bool) (c d : Nat) : ∃ t, idx (c + d) S = idx c S ++ t := by
  unfold idx
  exact ⟨_, by rw [List.range_add, List.filter_append]⟩
theorem cutsL_len (N : Nat) (S : Nat → Bool) : (cutsL N S).length = cnt S N + 1 := by unfold cutsL cnt; simp
theorem cutsL_succ (c : Nat) (S : Nat → Bool) : cutsL (c + 1) S = cutsL c S ++ (if S c = true then [c + 1] else []) := by
  unfold cutsL
  rw [idx_succ]
  by_cases h : S c = true <;> simp [h]
theorem cuts_last (S : Nat → Bool) : ∀ c, (cutsL c S)[cnt S c]? = some (ker S c)
  | 0 => rfl
  | c + 1 => by
    rw [cutsL_succ, cnt_succ]
    by_cases h : S c = true
    · have hl := cutsL_len c S
      rw [if_pos h, if_pos h, List.getElem?_append_right (by omega), hl, Nat.sub_self]
      show some (c + 1) = some (ker S (c + 1))
      unfold ker
      rw [if_pos h]
    · rw [if_neg h, if_neg h, List.append_nil, Nat.add_zero, cuts_last S c]
      show some (ker S c) = some (ker S (c + 1))
      rw [show ker S (c + 1) = ker S c from by rw [ker]; exact if_neg h]
theorem cuts_at {N c : Nat} (S : Nat → Bool) (h : c ≤ N) : (cutsL N S)[cnt S c]? = some (ker S c) := by
  obtain ⟨t, ht⟩ := idx_pre S c (N - c)
  have e : c + (N - c) = N := by omega
  rw [e] at ht
  have e2 : cutsL N S = cutsL c S ++ t.map (· + 1) := by
    unfold cutsL
    rw [ht]
    simp
  rw [e2, List.getElem?_append_left (by rw [cutsL_len]; omega)]
  exact cuts_last S c
theorem cuts_mem {N c : Nat} {S : Nat → Bool} : c + 1 ∈ cutsL N S ↔ c < N ∧ S c = true := by
  unfold cutsL
  simp only [List.mem_cons, List.mem_map]
  constructor
  · rintro (h | ⟨a, ha, e⟩)
    · omega
    · have : a = c := by omega
      subst this; exact idx_mem.mp ha
  · intro h
    exact .inr ⟨c, idx_mem.mpr h, rfl⟩
theorem counts_at' {N c : Nat} (S : Nat → Bool) (h : c ≤ N) : (countsL N S)[c]? = some (cnt S c) := by
  unfold countsL
  rw [List.getElem?_map, List.getElem?_range (by omega)]
  rfl
/-! ### kernels -/
theorem ker_le (S : Nat → Bool) : ∀ c, ker S c ≤ c
  | 0 => Nat.le_refl _
  | c + 1 => by
    unfold ker
    by_cases h : S c = true
    · rw [if_pos h]; exact Nat.le_refl _
    · rw [if_neg h]; exact Nat.le_succ_of_le (ker_le S c)
theorem ker_fix (S : Nat → Bool) : ∀ c, ker S c = c ↔ c = 0 ∨ ∃ d, c = d + 1 ∧ S d = true
  | 0 => by simp [ker]
  | c + 1 => by
    have hl := ker_le S c
    unfold ker
    by_cases h : S c = true
    · simp [h]
    · simp [h]
      omega
theorem ker_idem (S : Nat → Bool) : ∀ c, ker S (ker S c) = ker S c
  | 0 => rfl
  | c + 1 => by
    by_cases h : S c = true
    · have e : ker S (c + 1) = c + 1 := by rw [ker]; exact if_pos h
      rw [e, e]
    · have e : ker S (c + 1) = ker S c := by rw [ker]; exact if_neg h
      rw [e]; exact ker_idem S c
theorem ker_mono1 (S : Nat → Bool) (c : Nat) : ker S c ≤ ker S (c + 1) := by
  rw [ker]
  have := ker_le S c
  split <;> omega
theorem ker_mono (S : Nat → Bool) {a b : Nat} (h : a ≤ b) : ker S a ≤ ker S b := by
  induction b with
  | zero => have : a = 0 := by omega
            subst this; exact Nat.le_refl _
  | succ b ih =>
    rcases Nat.lt_or_ge a (b + 1) with h1 | h1
    · exact Nat.le_trans (ih (by omega)) (ker_mono1 S b)
    · have : a = b + 1 := by omega
      subst this; exact Nat.le_refl _
/-- the greatest cut not above at which the edition stands -/
theorem ker_ge {S : Nat → Bool} {d c : Nat} (h : d ≤ c) (hd : ker S d = d) : d ≤ ker S c := by
  have := ker_mono S h
  omega
theorem ker_or (S T : Nat → Bool) : ∀ c, ker (fun i => S i || T i) c = max (ker S c) (ker T c)
  | 0 => rfl
  | c + 1 => by
    have h1 := ker_le S c
    have h2 := ker_le T c
    have ih := ker_or S T c
    unfold ker
    by_cases a : S c = true <;> by_cases b : T c = true <;> simp [a, b, ih] <;> omega
theorem ker_congr {S T : Nat → Bool} : ∀ c, (∀ i < c, S i = T i) → ker S c = ker T c
  | 0, _ => rfl
  | c + 1, h => by
    unfold ker
    rw [h c (by omega), ker_congr c fun i hi => h i (by omega)]
theorem ker_all : ∀ c, ker (fun _ => true) c = c
  | 0 => rfl
  | c + 1 => by simp [ker]
theorem ker_none : ∀ c, ker (fun _ => false) c = 0
  | 0 => rfl
  | c + 1 => by
    rw [ker]
    simp [ker_none c]
theorem ker_sub {S T : Nat → Bool} {N : Nat} : (∀ i < N, S i = true → T i = true) ↔ ∀ c ≤ N, ker S c ≤ ker T c := by
  constructor
  · intro h c hc
    have h1 : ker T (ker S c) = ker S c := by
      rw [ker_fix]
      rcases (ker_fix S (ker S c)).mp (ker_idem S c) with e | ⟨d, e, hd⟩
      · exact .inl e
      · have := ker_le S c
        exact .inr ⟨d, e, h d (by omega) hd⟩
    exact ker_ge (ker_le S c) h1
  · intro h i hi hS
    have h1 := h (i + 1) (by omega)
    have h2 : ker S (i + 1) = i + 1 := by rw [ker]; exact if_pos hS
    have h3 := ker_le T (i + 1)
    have h4 : ker T (i + 1) = i + 1 := by omega
    rcases (ker_fix T (i + 1)).mp h4 with e | ⟨d, e, hd⟩
    · omega
    · have : d = i := by omega
      subst this; exact hd
/-- so many passages end at a cut at most just if the cut is at least behind them -/
theorem cuts_le_iff {N c n : Nat} {S : Nat → Bool} {x : Nat} (hc : c ≤ N) (h : (cutsL N S)[n]? = some x) : x ≤ c ↔ n ≤ cnt S c := by
  have srt : (cutsL N S).Pairwise (· < ·) := by
    unfold cutsL
    refine List.pairwise_cons.mpr ⟨fun a ha => ?_, ?_⟩
    · obtain ⟨b, _, e⟩ := List.mem_map.mp ha
      omega
    · refine List.Pairwise.map _ (fun a b hab => ?_) (idx_sorted N S)
      omega
  have hk := cuts_at S hc
  obtain ⟨l1, e1⟩ := List.getElem?_eq_some_iff.mp h
  obtain ⟨l2, e2⟩ := List.getElem?_eq_some_iff.mp hk
  have hkl := ker_le S c
  constructor
  · intro hx
    rcases Nat.lt_or_ge (cnt S c) n with hn | hn
    · exfalso
      have h1 := List.pairwise_iff_getElem.mp srt (cnt S c) n l2 l1 hn
      rw [e1, e2] at h1
      -- x stands in S and is at most c, so it is at most the kernel
      cases n with
      | zero => omega
      | succ n =>
        have h2 : x ∈ (idx N S).map (· + 1) := by
          unfold cutsL at h
          have : ((idx N S).map (· + 1))[n]? = some x := h
          exact List.mem_of_getElem? this
        obtain ⟨d, hd, e⟩ := List.mem_map.mp h2
        have e : d + 1 = x := e
        have h3 : ker S x = x := (ker_fix S x).mpr (.inr ⟨d, e.symm, (idx_mem.mp hd).2⟩)
        have := ker_ge hx h3
        omega
    · exact hn
  · intro hn
    rcases Nat.lt_or_ge n (cnt S c) with h1 | h1
    · have h2 := List.pairwise_iff_getElem.mp srt n (cnt S c) l1 l2 h1
      rw [e1, e2] at h2
      omega
    · have : n = cnt S c := by omega
      subst this
      rw [hk] at h
      have := Option.some.inj h
      omega
theorem cnt_cuts {N n : Nat} {S : Nat → Bool} {x : Nat} (h : (cutsL N S)[n]? = some x) : x ≤ N ∧ cnt S x = n := by
  have hn : n ≤ cnt S N := by
    have := (List.getElem?_eq_some_iff.mp h).1
    rw [cutsL_len] at this
    omega
  have hx : x ≤ N := (cuts_le_iff (Nat.le_refl N) h).mpr hn
  refine ⟨hx, ?_⟩
  have h1 := (cuts_le_iff hx h).mp (Nat.le_refl _)
  rcases Nat.lt_or_ge n (cnt S x) with h2 | h2
  · exfalso
    have hk := cuts_at S hx
    have h3 := (cuts_le_iff (c := x) hx (n := n + 1) (x := (cutsL N S).getD (n + 1) 0) ?_).mpr h2
    · have srt : (cutsL N S).Pairwise (· < ·) := by
        unfold cutsL
        refine List.pairwise_cons.mpr ⟨fun a ha => ?_, ?_⟩
        · obtain ⟨b, _, e⟩ := List.mem_map.mp ha
          omega
        · refine List.Pairwise.map _ (fun a b hab => ?_) (idx_sorted N S)
          omega
      have l2 : n + 1 < (cutsL N S).length := by
        have := (List.getElem?_eq_some_iff.mp hk).1
        omega
      obtain ⟨l1, e1⟩ := List.getElem?_eq_some_iff.mp h
      have h4 := List.pairwise_iff_getElem.mp srt n (n + 1) l1 l2 (by omega)
      rw [List.getD_eq_getElem?_getD, List.getElem?_eq_getElem l2] at h3
      simp at h3
      omega
    · have l2 : n + 1 < (cutsL N S).length := by
        have := (List.getElem?_eq_some_iff.mp hk).1
        omega
      rw [List.getD_eq_getElem?_getD, List.getElem?_eq_getElem l2]
      rfl
  · omega
end Lm

namespace Lm
open PySem L2
def top (i : Nat) : Stmt := PySem.Challenge.pw_leafmarks_k06_editions_joined.main.body.getD i (.Pass ⟨0, 0, 0, 0⟩)
end Lm

namespace Lm
open PySem L2
/-- what the walk asks of the built-in names -/
structure Blt (mg : Str → Option Value) : Prop where
  b_len : mg "len" = none
  b_int : mg "int" = none
  b_range : mg "range" = none
  b_enumerate : mg "enumerate" = none
  b_isinstance : mg "isinstance" = none
  b_list : mg "list" = none
  b_tuple : mg "tuple" = none
  b_str : mg "str" = none
  b_bool : mg "bool" = none
  b_all : mg "all" = none
  b_max : mg "max" = none
  b_zip : mg "zip" = none
section
variable {P : Program} {w : World} {K : PySem.W.Frag} {mg : Str → Option Value} {base : Heap} {f : Addr} {fd : FuncData}
def spFresh (K : PySem.W.Frag) : Sp := fun vs H Q _ => ∃ (a : Addr) (ns : List Int), vs = [.ref a] ∧ SqL K H a (ns.map V.int) ∧ ns.length ≤ 63 ∧ ∀ p c H', H p = none → H c = none → Same H H' → StAt H' p c → Q (.ref p) H'
abbrev s_fresh : Stmt := top 18
theorem sc_fresh : FnScope ["_law_script"] ["_law_script"] (defScope s_fresh) := ⟨rfl, rfl, rfl, by decide +kernel, rfl, by decide +kernel, by decide +kernel⟩
theorem ok_fresh (F : Fun K "_law_fresh" "_law_fresh" s_fresh f fd) (T : Blt mg) : FnOk P w K mg base CX0 1 f fd ["_law_script"] (spFresh K) := by
  refine F.ok sc_fresh (fun vs H Q E h => ?_) (fun cdv A outer s H vs Q E hr h => ?_)
  · obtain ⟨a, ns, rfl, _⟩ := h
    rfl
  · obtain ⟨a, ns, rfl, hS, hl, k⟩ := h
    refine ⟨_, (pss_one (ps_ret (pe_lst (pa_cons (pe_slice sl_list (pv 0) po_none (po_some pe_int)) (pa_cons pe_int (pa_cons pe_int (pa_cons pe_bl pa_nil))))))), ?_⟩
    have hc : cutV (ns.map V.int) none (some 63) = (ns.map V.int) := by
      have e : (ns.map V.int).length = ns.length := List.length_map ..
      unfold cutV
      rw [HT.sIx_none, show (some (63 : Int)) = some ((63 : Nat) : Int) from rfl, HT.sIx_nat, List.drop_zero, e, Nat.min_eq_right hl, Nat.sub_zero, ← e, List.take_length]
    refine ⟨_, rfl, ⟨63, rfl, a, _, rfl, hS, fun c nc => ⟨by show 4 ≤ sizeLine; decide, fun p np => ?_⟩⟩⟩
    have hpc : p ≠ c := (ne_of_none upd_same np).symm
    have np' : H p = none := by rw [← upd_ne (H := H) (o := .lst (cutV (ns.map V.int) none (some 63))) hpc]; exact np
    refine k p c _ np' nc ((Same.upd' nc).trans (Same.upd' np)) ⟨⟨0, 0, false, upd_same⟩, ⟨ns, ?_, hl⟩, hpc.symm⟩
    rw [upd_ne hpc.symm, upd_same, hc]
end
end Lm

namespace Lm
open PySem L2
theorem mem_at {xs : List V} {i : Nat} {x : V} (h : xs[i]? = some x) : x ∈ xs := List.mem_of_getElem? h
theorem fmod_bd (a : Int) {p : Int} (h : 0 < p) : 0 ≤ Int.fmod a p ∧ Int.fmod a p < p := ⟨Int.fmod_nonneg_of_pos a h, Int.fmod_lt_of_pos a h⟩
/-- exactly evaluated: a value, the heap as it was -/
def Vx (te : TE) (σ : St) (H : Hp) (v : V) : Prop := ∀ Q : VK, Q v H → te σ H Q
theorem vx_or {ta tb : TE} {σ : St} {H : Hp} {a b : Bool} (h1 : Vx ta σ H (.bl a)) (h2 : Vx tb σ H (.bl b)) : Vx (tOrV ta tb) σ H (.bl (a || b)) := by
  intro Q q
  refine h1 _ ⟨a, rfl, ?_⟩
  cases a
  · exact iteF (h2 _ q)
  · exact iteT q
theorem vx_and {ta tb : TE} {σ : St} {H : Hp} {a b : Bool} (h1 : Vx ta σ H (.bl a)) (h2 : Vx tb σ H (.bl b)) : Vx (tAndV ta tb) σ H (.bl (a && b)) := by
  intro Q q
  refine h1 _ ⟨a, rfl, ?_⟩
  cases a
  · exact iteF q
  · exact iteT (h2 _ q)
theorem sq_asgB {te : TE} {g : TG} {tz : TS} {D : Ends} {σ : St} {H : Hp} (h : ∀ Q : VK, (∀ b : Bool, Q (.bl b) H) → te σ H Q) (k : ∀ b : Bool, g (.bl b) σ H (tz D)) : tSeq (tAsg te g) tz D σ H := h _ k
section
variable {P : Program} {w : World} {K : PySem.W.Frag} {mg : Str → Option Value} {base : Heap} {f : Addr} {fd : FuncData}
def spFill : Sp := fun vs H Q _ => ∃ (st c : Addr), vs = [.ref st] ∧ StAt H st c ∧ ∀ H', StAt H' st c → Kp st H H' → Q .non H'
abbrev s_fill : Stmt := top 19
theorem sc_fill : FnScope ["_law_state", "_law_cells", "_law_nth", "_law_seed", "_law_k", "_law_prime", "_law_far"] ["_law_state"] (defScope s_fill) := ⟨rfl, rfl, rfl, by decide +kernel, rfl, by decide +kernel, by decide +kernel⟩
theorem ok_fill (F : Fun K "_law_fill" "_law_fill" s_fill f fd) (T : Blt mg) : FnOk P w K mg base CX0 1 f fd ["_law_state"] spFill := by
  refine F.ok sc_fill (fun vs H Q E h => ?_) (fun cdv A outer s H vs Q E hr h => ?_)
  · obtain ⟨st, c, rfl, _⟩ := h
    rfl
  · obtain ⟨st, c, rfl, S, k⟩ := h
    obtain ⟨⟨n, l, b, h1⟩, ⟨ns, h2, hl⟩, ne⟩ := id S
    refine ⟨_, (pss_cons (ps_par (i := 1) (j := 2) (by rfl) sc_fill.nd rfl rfl (by decide) rfl rfl (pa_cons (pe_ix ix_list (pv 0) pe_int (fun _ _ => rfl)) (pa_cons (pe_ix ix_list (pv 0) pe_int (fun _ _ => rfl)) pa_nil)) (by rfl))
        (pss_cons (ps_set (i := 3) sc_fill.nd rfl (by first | exact Or.inl rfl | exact Or.inr rfl) (pe_op op_add (pe_op op_mul pe_int (pv 2)) pe_int))
        (Evl.pss_cut (ps_if (pt_cmpR op_gt (pe_callB call_len_seq (by rfl) T.b_len PySem.boot_len (pa_cons (pv 1) pa_nil)) pe_int (nomark _)) (pss_one (ps_set (i := 3) sc_fill.nd rfl (by first | exact Or.inl rfl | exact Or.inr rfl) (pe_op op_add (pe_op op_mul pe_int (pe_op op_fdivN (pv 2) (pe_callB call_len_seq (by rfl) T.b_len PySem.boot_len (pa_cons (pv 1) pa_nil)))) (pe_ix ix_list (pv 1) (pe_op op_modN (pe_callTy call_int1 (by rfl) T.b_int (by decide +kernel) (pa_cons (pv 2) pa_nil)) (pe_callB call_len_seq (by rfl) T.b_len PySem.boot_len (pa_cons (pv 1) pa_nil))) (fun _ _ => rfl))))) pss_nil)
        (pss_cons (ps_asg (pe_op op_add (pv 2) pe_int) (pg_sub (pv 0) pe_int set_list))
        (pss_cons (ps_asg (pe_or (pe_cmpR op_ge (pv 2) (pe_callB call_len_seq (by rfl) T.b_len PySem.boot_len (pa_cons (pv 1) pa_nil)) (nomark _)) (pe_one (pe_cmpR op_lt (pv 3) (pe_op op_pow pe_int pe_int) (nomark _)))) (pg_sub (pv 0) pe_int set_list))
        (pss_cons (ps_asg (pe_op op_sub (pv 3) (pe_op op_pow pe_int pe_int)) (pg_sub (pv 0) pe_int set_list))
        (pss_one (ps_if (pt_val (pe_ix ix_list (pv 0) pe_int (fun _ _ => rfl))) (pss_cons (ps_asg pe_int (pg_sub (pv 0) pe_int set_list))
        (pss_one (ps_for PassesOwn.never rfl (pi_enumA rfl T.b_enumerate (pa_cons (pe_tup (pa_cons pe_int (pa_cons pe_int (pa_cons pe_int (pa_cons pe_int (pa_cons pe_int pa_nil)))))) pa_nil)) (pg_tup rfl (pgs_cons (pg_name (i := 4) sc_fill.nd rfl (by first | exact Or.inl rfl | exact Or.inr rfl)) (pgs_cons (pg_name (i := 5) sc_fill.nd rfl (by first | exact Or.inl rfl | exact Or.inr rfl)) pgs_nil))) (pss_cons (ps_set (i := 6) sc_fill.nd rfl (by first | exact Or.inl rfl | exact Or.inr rfl) (pe_op op_modN (pe_callTy call_int1 (by rfl) T.b_int (by decide +kernel) (pa_cons (pe_op op_mul (pe_op op_add (pe_op op_add (pv 3) (pe_op op_mul (pe_op op_mul pe_int (pv 4)) (pv 4))) (pe_op op_mul pe_int (pv 4))) (pe_op op_add pe_int (pe_op op_mul pe_int (pv 4)))) pa_nil)) (pv 5)))
        (pss_one (ps_asg (pe_op op_add (pe_op op_mul (pe_ix ix_list (pv 0) pe_int (fun _ _ => rfl)) (pv 5)) (pe_op op_modN (pe_callTy call_int1 (by rfl) T.b_int (by decide +kernel) (pa_cons (pe_op op_pow (pv 6) pe_int) pa_nil)) (pv 5))) (pg_sub (pv 0) pe_int set_list))))))) pss_nil)))))))), ?_⟩
    refine ⟨_, rfl, _, _, _, _, rfl, rfl, SqL.of h1, rfl, _, rfl, _, _, _, _, rfl, rfl, SqL.of h1, rfl, _, _, rfl, ?_⟩
    refine ⟨_, rfl, _, _, rfl, rfl, .inl ⟨by decide, by decide⟩, _, _, rfl, rfl, ?_⟩
    refine ⟨fun σ' H' => H = H' ∧ ∃ seed : Int, σ' = [some (.ref st), some (.ref c), some (.int n), some (.int seed), none, none, none], ?_, ?_⟩
    · refine ⟨_, rfl, _, _, rfl, .inl (SqL.of h2), _, _, rfl, rfl, _, rfl, ite2 (fun hp => ?_) (fun _ => ⟨rfl, _, rfl⟩)⟩
      have e : (ns.map V.int).length = ns.length := List.length_map ..
      have hp : 0 < ns.length := by
        have hp := of_decide_eq_true hp
        rw [e] at hp; omega
      refine ⟨_, rfl, _, rfl, _, _, rfl, .inl (SqL.of h2), _, _, rfl, rfl, ⟨by rw [e]; omega, by rw [e]; omega⟩, _, _, rfl, rfl, .inl ⟨by decide, by decide⟩, ?_⟩
      obtain ⟨m1, m2⟩ := fmod_bd n (p := ((ns.map V.int).length : Int)) (by rw [e]; omega)
      have hj : (Int.fmod n ((ns.map V.int).length : Int)).toNat < ns.length := by rw [e] at m1 m2 ⊢; omega
      refine ⟨_, rfl, _, rfl, .inl ⟨_, rfl, _, rfl, _, _, rfl, .inl (SqL.of h2), _, _, rfl, rfl, by rw [e]; omega, _, _, _, _, rfl, rfl, SqL.of h2, at_of (j := (Int.fmod n ((ns.map V.int).length : Int)).toNat) (Int.toNat_of_nonneg m1).symm (by rw [List.getElem?_map, List.getElem?_eq_getElem hj]; rfl), _, _, rfl, rfl, ⟨rfl, _, rfl⟩⟩⟩
    · rintro σ' H' ⟨rfl, seed, rfl⟩
      refine ⟨_, rfl, _, _, rfl, rfl, _, rfl, _, _, _, _, rfl, rfl, h1, rfl, ?_⟩
      generalize hH1 : upd H st _ = H1
      have g1 : H1 st = some (.lst [.ref c, .int (n + 1), .int l, .bl b]) := by rw [← hH1]; exact upd_same
      have g2 : H1 c = some (.lst (ns.map V.int)) := by rw [← hH1, upd_ne ne]; exact h2
      have kp1 : Kp st H H1 := by rw [← hH1]; exact Kp.upd _ _ _
      clear hH1
      -- far or not
      dsimp only
      refine sq_asgB (fun Q q => ?_) fun b' => ?_
      · refine ⟨_, rfl, _, rfl, _, _, rfl, .inl (SqL.of g2), _, _, rfl, rfl, _, rfl, ite2 (fun _ => q true) (fun _ => ?_)⟩
        exact ⟨_, rfl, _, _, rfl, rfl, ⟨by decide, by decide, by decide⟩, _, _, rfl, rfl, q _⟩
      refine ⟨_, rfl, _, _, _, _, rfl, rfl, g1, rfl, ?_⟩
      generalize hH2 : upd H1 st _ = H2
      have g3 : H2 st = some (.lst [.ref c, .int (n + 1), .int l, .bl b']) := by rw [← hH2]; exact upd_same
      have g4 : H2 c = some (.lst (ns.map V.int)) := by rw [← hH2, upd_ne ne]; exact g2
      have kp2 : Kp st H H2 := by rw [← hH2]; exact kp1.trans (Kp.upd _ _ _)
      clear hH2
      refine ⟨_, rfl, _, _, rfl, rfl, ⟨by decide, by decide, by decide⟩, _, _, rfl, rfl, _, rfl, _, _, _, _, rfl, rfl, g3, rfl, ?_⟩
      generalize hH3 : upd H2 st _ = H3
      obtain ⟨l3, g5⟩ : ∃ l3, H3 st = some (.lst [.ref c, .int (n + 1), .int l3, .bl b']) := ⟨_, by rw [← hH3]; exact upd_same⟩
      have g6 : H3 c = some (.lst (ns.map V.int)) := by rw [← hH3, upd_ne ne]; exact g4
      have kp3 : Kp st H H3 := by rw [← hH3]; exact kp2.trans (Kp.upd _ _ _)
      clear hH3
      refine ⟨_, rfl, _, _, _, _, rfl, rfl, SqL.of g5, rfl, _, rfl, ite2 (fun _ => ?_) (fun _ => k _ ⟨⟨_, _, _, g5⟩, ⟨ns, g6, hl⟩, ne⟩ kp3)⟩
      refine ⟨_, rfl, _, _, _, _, rfl, rfl, g5, rfl, ?_⟩
      generalize hH4 : upd H3 st _ = H4
      have g7 : H4 st = some (.lst [.ref c, .int (n + 1), .int 0, .bl b']) := by rw [← hH4]; exact upd_same
      have g8 : H4 c = some (.lst (ns.map V.int)) := by rw [← hH4, upd_ne ne]; exact g6
      have kp4 : Kp st H H4 := by rw [← hH4]; exact kp3.trans (Kp.upd _ _ _)
      clear hH4
      refine ⟨by show 5 ≤ sizeLine; decide, fun t nt => ?_⟩
      have hts : t ≠ st := (ne_of_none g7 nt).symm
      have htc : t ≠ c := (ne_of_none g8 nt).symm
      refine ⟨t, _, rfl, .inr ⟨SqT.of upd_same, for_it (walk_enumT (K := K) (xs := [V.int 2147483647, V.int 2147483629, V.int 2147483587, V.int 2147483579, V.int 2147483563])) (fun i σ' H' => ∃ (u v x : Option V) (l' : Int), σ' = [some (.ref st), some (.ref c), some (.int n), some (.int seed), u, v, x] ∧ Kp st (upd H4 t (.tup [V.int 2147483647, V.int 2147483629, V.int 2147483587, V.int 2147483579, V.int 2147483563])) H' ∧ H' st = some (.lst [.ref c, .int (n + 1), .int l', .bl b'])) ?_ ?_ ?_ ?_⟩⟩
      · exact ⟨_, _, _, _, rfl, Kp.refl _ _, by rw [upd_ne hts.symm]; exact g7⟩
      · rintro i σ' H' _ ⟨u, v, x, l', rfl, e, _⟩
        exact SqT.of (e _ _ hts upd_same)
      · rintro i y σ' H' H'' hi ⟨u, v, x, l', rfl, e, e2⟩ ⟨T, x1, x2, rfl, nT, rfl, hx1, hx2⟩
        obtain ⟨pr, rfl, pr0, pr1⟩ : ∃ pr : Int, x2 = .int pr ∧ 0 < pr ∧ pr < 2147483648 := by
          have hm := mem_at hx2
          simp only [List.mem_cons, List.not_mem_nil, or_false] at hm
          rcases hm with rfl | rfl | rfl | rfl | rfl <;> exact ⟨_, rfl, by decide, by decide⟩
        cases (Option.some.inj hx1)
        have hi : i < 5 := hi
        have hTs : T ≠ st := (ne_of_none e2 nT).symm
        refine ⟨T, _, rfl, SqT.of upd_same, rfl, _, _, rfl, _, _, rfl, rfl, ?_⟩
        refine ⟨_, rfl, _, rfl, _, _, rfl, rfl, .inl ⟨by decide, by decide⟩, _, rfl, _, _, rfl, rfl, .inr ⟨by omega, by omega⟩, _, _, rfl, rfl, ?_⟩
        refine ⟨_, rfl, _, _, rfl, rfl, .inl ⟨by decide, by decide⟩, _, _, rfl, rfl, _, rfl, _, _, rfl, rfl, .inl ⟨by decide, by decide⟩, _, _, rfl, rfl, _, _, rfl, rfl, .inr ⟨by omega, by omega⟩, ?_⟩
        refine .inl ⟨_, rfl, _, rfl, _, _, rfl, rfl, by omega, ?_⟩
        generalize hfar : Int.fmod _ pr = far
        have hfar2 := fmod_bd (((seed + 10007 * (i : Int) * (i : Int) + 101 * (i : Int)) * (48271 + 2 * (i : Int)))) pr0
        rw [hfar] at hfar2
        refine ⟨_, rfl, _, _, _, _, rfl, rfl, SqL.of (by rw [upd_ne hTs.symm]; exact e2), rfl, _, rfl, _, _, rfl, rfl, .inr ⟨by omega, by omega⟩, ?_⟩
        refine ⟨_, rfl, _, _, rfl, rfl, ⟨by decide, by decide, by omega⟩, .inl ⟨_, rfl, _, rfl, _, _, rfl, rfl, by omega, _, _, rfl, rfl, _, rfl, _, _, _, _, rfl, rfl, by rw [upd_ne hTs.symm]; exact e2, rfl, ?_⟩⟩
        refine ⟨_, _, _, _, rfl, (e.trans (Kp.of (Same.upd' nT))).trans (Kp.upd _ _ _), upd_same⟩
      · rintro σ' H' ⟨u, v, x, l', rfl, e, e2⟩
        exact k _ ⟨⟨_, _, _, e2⟩, ⟨ns, e _ _ ne (by rw [upd_ne htc.symm]; exact g8), hl⟩, ne⟩ ((kp4.trans (Kp.of (Same.upd' nt))).trans e)
end
end Lm

namespace Lm
open PySem L2
/-! ### what is wanted may be weakened -/
def MonE (te : TE) : Prop := ∀ σ H (Q Q' : VK), (∀ v H1, Q v H1 → Q' v H1) → te σ H Q → te σ H Q'
def MonT (tt : TT) : Prop := ∀ σ H (Q Q' : Bool → Hp → Prop), (∀ b H1, Q b H1 → Q' b H1) → tt σ H Q → tt σ H Q'
def MonR (r : R2) : Prop := ∀ x y H (Q Q' : VK), (∀ v H1, Q v H1 → Q' v H1) → r x y H Q → r x y H Q'
theorem monE_var {i : Nat} : MonE (tVar i) := fun σ H Q Q' h ⟨v, e, q⟩ => ⟨v, e, h _ _ q⟩
theorem monE_c {v : V} : MonE (tC v) := fun σ H Q Q' h q => h _ _ q
theorem monE_op {r : R2} {ta tb : TE} (hr : MonR r) (ha : MonE ta) (hb : MonE tb) : MonE (tOp r ta tb) := fun σ H Q Q' h q => ha _ _ _ _ (fun x H1 q => hb _ _ _ _ (fun y H2 q => hr _ _ _ _ _ h q) q) q
theorem mon_I0 {g : Int → Int → V} : MonR (rI0 g) := fun x y H Q Q' h ⟨i, j, e1, e2, q⟩ => ⟨i, j, e1, e2, h _ _ q⟩
theorem mon_I {C : Int → Int → Prop} {g : Int → Int → V} : MonR (rI C g) := fun x y H Q Q' h ⟨i, j, e1, e2, c, q⟩ => ⟨i, j, e1, e2, c, h _ _ q⟩
theorem mon_ixL {K : PySem.W.Frag} : MonR (rIxL K) := fun x y H Q Q' h ⟨p, xs, i, v, e1, e2, e3, e4, q⟩ => ⟨p, xs, i, v, e1, e2, e3, e4, h _ _ q⟩
theorem mon_eq : MonR rEq := fun x y H Q Q' h ⟨e, q⟩ => ⟨e, h _ _ q⟩
theorem monT_test {te : TE} (he : MonE te) : MonT (tTest te) := fun σ H Q Q' h q => he _ _ _ _ (fun x H1 ⟨k, e, q⟩ => ⟨k, e, h _ _ q⟩) q
theorem monT_B {te : TE} (he : MonE te) : MonT (tB te) := fun σ H Q Q' h q => he _ _ _ _ (fun x H1 ⟨k, e, q⟩ => ⟨k, e, h _ _ q⟩) q
theorem monT_and {t u : TT} (ht : MonT t) (hu : MonT u) : MonT (tAnd t u) := fun σ H Q Q' h q => ht _ _ _ _ (fun b H1 q => by cases b with | true => exact hu _ _ _ _ h q | false => exact h _ _ q) q
theorem monT_or {t u : TT} (ht : MonT t) (hu : MonT u) : MonT (tOr t u) := fun σ H Q Q' h q => ht _ _ _ _ (fun b H1 q => by cases b with | true => exact h _ _ q | false => exact hu _ _ _ _ h q) q
section
variable {P : Program} {w : World} {K : PySem.W.Frag} {mg : Str → Option Value} {base : Heap} {f : Addr} {fd : FuncData}
def spTake : Sp := fun vs H Q _ => ∃ (st c : Addr) (m : Int), vs = [.ref st, .int m] ∧ StAt H st c ∧ 0 < m ∧ m < 1073741824 ∧ ∀ d H', 0 ≤ d → d < m → StAt H' st c → Kp st H H' → Q (.int d) H'
abbrev s_take : Stmt := top 20
theorem sc_take : FnScope ["_law_state", "_law_many_here", "_law_laps", "_law_digit"] ["_law_state", "_law_many_here"] (defScope s_take) := ⟨rfl, rfl, rfl, by decide +kernel, rfl, by decide +kernel, by decide +kernel⟩
theorem ok_take {fF : Addr} {fdF : FuncData} (F : Fun K "_law_take" "_law_take" s_take f fd) (T : Blt mg) (D_fill : DefOk P w K mg base 1 "_law_fill" fF fdF ["_law_state"] spFill) : FnOk P w K mg base CX0 2 f fd ["_law_state", "_law_many_here"] spTake := by
  refine F.ok sc_take (fun vs H Q E h => ?_) (fun cdv A outer s H vs Q E hr h => ?_)
  · obtain ⟨st, c, m, rfl, _⟩ := h
    rfl
  · obtain ⟨st, c, m, rfl, S, m0, m1, k⟩ := h
    refine ⟨_, (pss_cons (ps_set (i := 2) sc_take.nd rfl (by first | exact Or.inl rfl | exact Or.inr rfl) pe_int)
        (pss_cons (ps_while PassesOwn.never (PW.pt (pw_and (pt_cmpR op_lt (pv 2) pe_int (nomark _)) (pw_and1 (PW.pt (pw_or (pt_cmpR op_eq (pe_ix ix_list (pv 0) pe_int (fun _ _ => rfl)) pe_int (nomark _)) (pw_or1 (PW.pt (pw_and (pt_val (pe_ix ix_list (pv 0) pe_int (fun _ _ => rfl))) (pw_and1 (pt_cmpR op_lt (pe_ix ix_list (pv 0) pe_int (fun _ _ => rfl)) (pe_op op_mul (pv 1) pe_int) (nomark _))))))))))) (pss_cons (ps_expr (pe_d D_fill (hr.mono (by decide)) (pa_cons (pv 0) pa_nil)))
        (pss_cons (ps_aug (i := 2) sc_take.nd rfl (by first | exact Or.inl rfl | exact Or.inr rfl) pe_int ip_add)
        (pss_one (ps_if (PW.pt (pw_and (pt_val (pe_ix ix_list (pv 0) pe_int (fun _ _ => rfl))) (pw_and1 (pt_cmpR op_lt (pe_ix ix_list (pv 0) pe_int (fun _ _ => rfl)) (pe_op op_mul (pv 1) pe_int) (nomark _))))) (pss_one (ps_asg (pe_op op_add (pe_ix ix_list (pv 0) pe_int (fun _ _ => rfl)) (pe_op op_mul (pe_op op_mul (pv 1) pe_int) (pe_op op_add pe_int (pe_op op_modN (pe_callTy call_int1 (by rfl) T.b_int (by decide +kernel) (pa_cons (pe_ix ix_list (pv 0) pe_int (fun _ _ => rfl)) pa_nil)) pe_int)))) (pg_sub (pv 0) pe_int set_list))) pss_nil)))))
        (pss_cons (ps_set (i := 3) sc_take.nd rfl (by first | exact Or.inl rfl | exact Or.inr rfl) (pe_op op_modN (pe_callTy call_int1 (by rfl) T.b_int (by decide +kernel) (pa_cons (pe_ix ix_list (pv 0) pe_int (fun _ _ => rfl)) pa_nil)) (pv 1)))
        (pss_cons (ps_asg (pe_op op_fdivN (pe_ix ix_list (pv 0) pe_int (fun _ _ => rfl)) (pv 1)) (pg_sub (pv 0) pe_int set_list))
        (pss_one (ps_ret (pv 3))))))), ?_⟩
    refine while_by (fun σ' H' => ∃ (i : Nat), σ' = [some (.ref st), some (.int m), some (.int (i : Int)), none] ∧ i ≤ 64 ∧ StAt H' st c ∧ Kp st H H') (fun σ' _ => match σ' with | [_, _, some (.int i), _] => (64 - i).toNat | _ => 0) ⟨0, rfl, by decide, S, Kp.refl _ _⟩ ?_ ?_
    · rintro σ' H' ⟨i, rfl, hi, S', e⟩
      obtain ⟨⟨n, l, b, h1⟩, ⟨ns, h2, hl⟩, ne⟩ := id S'
      -- behind the loop
      have after : tSeq (tAsg (tOp (rI (fun x j => j ≠ 0) fun i j => V.int (i.fmod j)) (tCB (fun xs H Q => (∃ i, xs = [V.int i] ∧ Q (V.int i) H) ∨ ∃ k, xs = [V.bl k] ∧ Q (V.int (if k = true then 1 else 0)) H) (tCons (tOp (rIxL K) (tVar 0) (tC (.int 2))) tNil)) (tVar 1)) (gName 3))
          (tSeq (tAsg (tOp (rI CDivN fun i j => .int (i.fdiv j)) (tOp (rIxL K) (tVar 0) (tC (.int 2))) (tVar 1)) (gSub (tVar 0) (tC (.int 2)) rSetL)) (tRet (tVar 3))) { nx := fun _ H' => Q .non H', rt := Q } [some (.ref st), some (.int m), some (.int (i : Int)), none] H' := by
        refine ⟨_, rfl, _, _, _, _, rfl, rfl, SqL.of h1, rfl, .inl ⟨_, rfl, _, rfl, _, _, rfl, rfl, by omega, ?_⟩⟩
        have hd := fmod_bd l m0
        refine ⟨_, rfl, _, _, _, _, rfl, rfl, SqL.of h1, rfl, _, rfl, _, _, rfl, rfl, ⟨by omega, by omega⟩, _, rfl, _, _, _, _, rfl, rfl, h1, rfl, _, rfl, ?_⟩
        exact k _ _ hd.1 hd.2 ⟨⟨_, _, _, upd_same⟩, ⟨ns, by rw [upd_ne ne]; exact h2, hl⟩, ne⟩ (e.trans (Kp.upd _ _ _))
      refine ⟨_, rfl, _, _, rfl, rfl, _, rfl, ite2 (fun hc => ?_) (fun _ => iteF after)⟩
      have hc : i < 64 := by have := of_decide_eq_true hc; omega
      refine ⟨_, rfl, _, _, _, _, rfl, rfl, SqL.of h1, rfl, rfl, _, rfl, ite2 (fun _ => ?b1) (fun _ => ⟨_, rfl, _, _, _, _, rfl, rfl, SqL.of h1, rfl, _, rfl, ite2 (fun _ => ⟨_, rfl, _, _, _, _, rfl, rfl, SqL.of h1, rfl, _, rfl, _, _, rfl, rfl, .inr ⟨by decide, by decide⟩, _, _, rfl, rfl, _, rfl, ite2 (fun _ => ?b2) (fun _ => ?c1)⟩) (fun _ => ?c2)⟩)⟩
      case c1 => exact after
      case c2 => exact after
      all_goals
        refine ⟨_, rfl, st, c, rfl, S', fun H2 S2 e2 => ?_⟩
        obtain ⟨⟨n2, l2, b2, g1⟩, ⟨ns2, g2, gl⟩, _⟩ := id S2
        have fin : ∀ H3, StAt H3 st c → Kp st H2 H3 → (∃ j : Nat, [some (V.ref st), some (.int m), some (.int ((i : Int) + 1)), none] = [some (.ref st), some (.int m), some (.int (j : Int)), none] ∧ j ≤ 64 ∧ StAt H3 st c ∧ Kp st H H3) ∧ (64 - ((i : Int) + 1)).toNat < (64 - (i : Int)).toNat :=
          fun H3 S3 e3 => ⟨⟨i + 1, by simp, by omega, S3, (e.trans e2).trans e3⟩, by omega⟩
        refine ⟨_, rfl, _, _, rfl, rfl, ?_⟩
        refine ⟨_, rfl, _, _, _, _, rfl, rfl, SqL.of g1, rfl, _, rfl, ite2 (fun _ => ⟨_, rfl, _, _, _, _, rfl, rfl, SqL.of g1, rfl, _, rfl, _, _, rfl, rfl, .inr ⟨by decide, by decide⟩, _, _, rfl, rfl, _, rfl, ite2 (fun _ => ?_) (fun _ => fin _ S2 (Kp.refl _ _))⟩) (fun _ => fin _ S2 (Kp.refl _ _))⟩
        have hr2 := fmod_bd l2 (p := 4093) (by decide)
        refine ⟨_, rfl, _, _, _, _, rfl, rfl, SqL.of g1, rfl, _, rfl, _, _, rfl, rfl, .inr ⟨by decide, by decide⟩, _, rfl, _, _, _, _, rfl, rfl, SqL.of g1, rfl, .inl ⟨_, rfl, _, _, rfl, rfl, (by show (4093 : Int) ≠ 0; decide), _, _, rfl, rfl, _, _, rfl, rfl, .inr ⟨by omega, by omega⟩, _, _, rfl, rfl, _, rfl, _, _, _, _, rfl, rfl, g1, rfl, ?_⟩⟩
        exact fin _ ⟨⟨_, _, _, upd_same⟩, ⟨ns2, by rw [upd_ne ne]; exact g2, gl⟩, ne⟩ (Kp.upd _ _ _)
    · exact monT_and (monT_test (monE_op mon_I0 (monE_var) (monE_c))) (monT_or (monT_test (monE_op mon_eq (monE_op mon_ixL monE_var monE_c) monE_c)) (monT_and (monT_B (monE_op mon_ixL monE_var monE_c)) (monT_test (monE_op mon_I0 (monE_op mon_ixL monE_var monE_c) (monE_op mon_I monE_var monE_c)))))
end
end Lm

namespace Lm
open PySem L2
section
variable {P : Program} {w : World} {K : PySem.W.Frag} {mg : Str → Option Value} {base : Heap} {f : Addr} {fd : FuncData}
def spOneA (K : PySem.W.Frag) : Sp := fun vs H Q _ => ∃ (st c t : Addr) (xs : List V), vs = [.ref st, .ref t] ∧ StAt H st c ∧ t ≠ st ∧ (SqL K H t xs ∨ SqT K H t xs) ∧ 0 < xs.length ∧ xs.length < 1073741824 ∧ ∀ v H', v ∈ xs → StAt H' st c → Kp st H H' → Q v H'
def spOne (K : PySem.W.Frag) : Sp := fun vs H Q _ => ∃ (st c t : Addr) (xs : List V), vs = [.ref st, .ref t] ∧ StAt H st c ∧ t ≠ st ∧ SqT K H t xs ∧ 0 < xs.length ∧ xs.length < 1073741824 ∧ ∀ v H', v ∈ xs → StAt H' st c → Kp st H H' → Q v H'
abbrev s_one : Stmt := top 21
theorem sc_one : FnScope ["_law_state", "_law_things"] ["_law_state", "_law_things"] (defScope s_one) := ⟨rfl, rfl, rfl, by decide +kernel, rfl, by decide +kernel, by decide +kernel⟩
theorem ok_oneA {fT : Addr} {fdT : FuncData} (F : Fun K "_law_one" "_law_one" s_one f fd) (T : Blt mg) (D_take : DefOk P w K mg base 2 "_law_take" fT fdT ["_law_state", "_law_many_here"] spTake) : FnOk P w K mg base CX0 3 f fd ["_law_state", "_law_things"] (spOneA K) := by
  refine F.ok sc_one (fun vs H Q E h => ?_) (fun cdv A outer s H vs Q E hr h => ?_)
  · obtain ⟨st, c, t, xs, rfl, _⟩ := h
    rfl
  · obtain ⟨st, c, t, xs, rfl, S, hts, hq, l0, l1, k⟩ := h
    refine ⟨_, (pss_one (ps_ret (pe_ix ix_seq (pv 1) (pe_d D_take (hr.mono (by decide)) (pa_cons (pv 0) (pa_cons (pe_callB call_len_seq (by rfl) T.b_len PySem.boot_len (pa_cons (pv 1) pa_nil)) pa_nil))) (fun _ _ => rfl)))), ?_⟩
    refine ⟨_, rfl, _, rfl, _, rfl, _, _, rfl, hq, st, c, _, rfl, S, by omega, by omega, fun d H' d0 d1 S' e => ?_⟩
    have hd : d.toNat < xs.length := by omega
    have at_ := at_of (Int.toNat_of_nonneg d0).symm (List.getElem?_eq_getElem hd)
    have fin := k _ _ (List.getElem_mem hd) S' e
    rcases hq with hq | hq
    · exact .inl ⟨t, xs, d, _, rfl, rfl, e.seqL hts hq, at_, fin⟩
    · exact .inr (.inl ⟨t, xs, d, _, rfl, rfl, e.seqT hts hq, at_, fin⟩)
theorem ok_one {fT : Addr} {fdT : FuncData} (F : Fun K "_law_one" "_law_one" s_one f fd) (T : Blt mg) (D_take : DefOk P w K mg base 2 "_law_take" fT fdT ["_law_state", "_law_many_here"] spTake) : FnOk P w K mg base CX0 3 f fd ["_law_state", "_law_things"] (spOne K) :=
  (ok_oneA F T D_take).imp fun vs H Q E ⟨st, c, t, xs, h1, h2, h3, h4, h5, h6, h7⟩ => ⟨st, c, t, xs, h1, h2, h3, .inr h4, h5, h6, h7⟩
/-! ### the words -/
def sg (c : Nat) : Str := ⟨#[c]⟩
def two (c d : Nat) : Str := ⟨#[c, d]⟩
def row2 (c : Nat) : List Str := [103, 104, 105, 106, 107, 108, 109, 110, 111, 112].map (two c)
def w0 : List Str := ["a", "b", "k", "zz", "abcdefgh"]
def allW : List Str := w0 ++ [97, 98, 99, 100, 101, 102].flatMap row2
theorem two_eq (c d : Nat) : sg c ++ sg d = two c d := rfl
theorem len1 (c : Nat) : (sg c).length = 1 := rfl
def spAllW : Sp := fun vs H Q _ => vs = [] ∧ ∀ p H', H p = none → Same H H' → H' p = some (.lst (allW.map V.str)) → Q (.ref p) H'
abbrev s_all_words : Stmt := top 23
theorem sc_all_words : FnScope ["_law_found", "_law_x", "_law_y"] [] (defScope s_all_words) := ⟨rfl, rfl, rfl, by decide +kernel, rfl, by decide +kernel, by decide +kernel⟩
theorem sixL : ("abcdef" : Str).cps = #[97, 98, 99, 100, 101, 102] := by decide +kernel
theorem tenL : ("ghijklmnop" : Str).cps = #[103, 104, 105, 106, 107, 108, 109, 110, 111, 112] := by decide +kernel
theorem ok_all_words (F : Fun K "_law_all_words" "_law_all_words" s_all_words f fd) (T : Blt mg) : FnOk P w K mg base CX0 1 f fd [] spAllW := by
  refine F.ok sc_all_words (fun vs H Q E h => ?_) (fun cdv A outer s H vs Q E hr h => ?_)
  · obtain ⟨rfl, _⟩ := h
    rfl
  · obtain ⟨rfl, k⟩ := h
    refine ⟨_, (pss_cons (ps_set (i := 0) sc_all_words.nd rfl (by first | exact Or.inl rfl | exact Or.inr rfl) (pe_lst (pa_cons pe_str (pa_cons pe_str (pa_cons pe_str (pa_cons pe_str (pa_cons pe_str pa_nil)))))))
        (pss_cons (ps_for PassesOwn.never rfl (pi_str pe_str) (pg_name (i := 1) sc_all_words.nd rfl (by first | exact Or.inl rfl | exact Or.inr rfl)) (pss_one (ps_expr (pe_bm PySem.F.plainAttrs_list PySem.F.slot_list_extend PySem.F.type_list_extend mt_extend (pv 0) (by exact (pa_cons (pe_lc (own := [("_law_y", 2)]) (g := gName 2) (tt := tYes) (te := (tOp rAddS (tVar 1) (tVar 2))) rfl sc_all_words.nd (pi_str pe_str) (blkOk_by (own := [("_law_y", 2)]) (by kernel_rfl)) (fun _ _ _ _ _ => (pg_name (i := 2) sc_all_words.nd rfl (by first | exact Or.inl rfl | exact Or.inr rfl))) (fun _ _ _ _ _ => pts_nil) (fun _ _ _ _ _ => by exact (pe_op op_add_str (pv 1) (pv 2)))) pa_nil))))))
        (pss_one (ps_ret (pv 0))))), ?_⟩
    refine ⟨by show 5 ≤ sizeLine; decide, fun p np => ?_⟩
    refine ⟨_, rfl, for_it walk_str (fun i σ' H' => ∃ u v : Option V, σ' = [some (.ref p), u, v] ∧ Same H H' ∧ H' p = some (.lst ((w0 ++ ([97, 98, 99, 100, 101, 102].take i).flatMap row2).map V.str))) ⟨none, none, rfl, Same.upd' np, upd_same⟩ (fun _ _ _ _ _ => True.intro) ?_ ?_⟩
    · rintro i x σ' H' H'' hi ⟨u, v, rfl, e, hp⟩ ⟨rfl, c, hc, rfl⟩
      rw [sixL] at hi hc
      refine ⟨_, rfl, .inl ⟨rfl, _, SqL.of hp⟩, ?_⟩
      refine ⟨_, rfl, fun D nD => lc_it walk_str (fun j H2 => Same H'' H2 ∧ H2 D = some (.lst ((([103, 104, 105, 106, 107, 108, 109, 110, 111, 112].take j).map (two c)).map V.str))) ⟨Same.upd' nD, upd_same⟩ (fun _ _ _ _ => True.intro) ?_ ?_⟩
      · rintro j y H2 H3 hj ⟨g1, g2⟩ ⟨rfl, d, hd, rfl⟩
        rw [tenL] at hj hd
        refine ⟨rfl, _, rfl, _, rfl, sg c, sg d, rfl, rfl, by rw [len1, len1]; decide, _, g2, small1000 (by simp; omega), ?_⟩
        refine ⟨Same.mut g1 nD, ?_⟩
        have hd' : [103, 104, 105, 106, 107, 108, 109, 110, 111, 112][j]? = some d := by simpa using hd
        rw [upd_same, List.take_succ, hd', two_eq]
        simp
      · rintro H2 ⟨g1, g2⟩
        rw [tenL] at g2
        have g2 : H2 D = some (.lst ((row2 c).map V.str)) := g2
        have hDp : D ≠ p := (ne_of_none hp nD).symm
        have hc' : [97, 98, 99, 100, 101, 102][i]? = some c := by simpa using hc
        refine ⟨_, _, _, _, rfl, rfl, g1 _ _ hp, g2, ?_, ?_⟩
        · show _ ≤ sizeLine
          refine Nat.le_of_lt (small1000 ?_)
          have hi' : i ≤ 6 := Nat.le_of_lt hi
          have : ∀ i ≤ 6, ((w0 ++ ([97, 98, 99, 100, 101, 102].take i).flatMap row2).map V.str).length ≤ 800 := by decide +kernel
          have h1 := this i hi'
          have h2 : ((row2 c).map V.str).length = 10 := by simp [row2]
          omega
        · refine ⟨_, _, rfl, Same.mut (e.trans g1) np, ?_⟩
          rw [upd_same, List.take_succ, hc']
          simp
    · rintro σ' H' ⟨u, v, rfl, e, hp⟩
      rw [sixL] at hp
      exact ⟨_, rfl, k p _ np e hp⟩
end
end Lm

namespace Lm
open PySem L2
def isW (x : Str) : Bool := decide (1 ≤ x.cps.size) && decide (x.cps.size ≤ 8) && x.cps.toList.all fun c => decide (97 ≤ c) && decide (c ≤ 122)
theorem allW_nodup : allW.Nodup := by decide +kernel
theorem allW_len : allW.length = 65 := by decide +kernel
theorem allW_word : ∀ x ∈ allW, isW x = true := by decide +kernel
/-- of the words so many, all unlike -/
structure Wds (ws : List Str) (n : Nat) : Prop where
  len : ws.length = n
  nd : ws.Nodup
  wd : ∀ x ∈ ws, isW x = true
theorem perm_erase {α : Type} : ∀ (l : List α) (i : Nat) (h : i < l.length), (l[i] :: l.eraseIdx i).Perm l
  | a :: r, 0, _ => .refl _
  | a :: r, i + 1, h => by
    have := perm_erase r i (by simpa using h)
    exact (List.Perm.swap _ _ _).trans (this.cons a)
theorem erase_map {α β : Type} (g : α → β) : ∀ (l : List α) (i : Nat), (l.map g).eraseIdx i = (l.eraseIdx i).map g
  | [], _ => rfl
  | _ :: _, 0 => rfl
  | a :: r, i + 1 => by
    show g a :: (r.map g).eraseIdx i = g a :: (r.eraseIdx i).map g
    rw [erase_map g r i]
theorem wds_of {F L : List Str} (h : (F ++ L).Perm allW) : Wds F F.length := by
  have nd := h.symm.nodup allW_nodup
  exact ⟨rfl, (List.nodup_append.mp nd).1, fun x hx => allW_word x (h.mem_iff.mp (List.mem_append_left _ hx))⟩
section
variable {P : Program} {w : World} {K : PySem.W.Frag} {mg : Str → Option Value} {base : Heap} {f : Addr} {fd : FuncData}
def spSomeWA : Sp := fun vs H Q _ => ∃ (st c : Addr) (m : Nat), vs = [.ref st, .int m] ∧ StAt H st c ∧ m ≤ 60 ∧ ∀ p ws H', H p = none → Wds ws m → (∀ x ∈ ws, x ∈ allW) → StAt H' st c → Kp st H H' → H' p = some (.lst (ws.map V.str)) → Q (.ref p) H'
def spSomeW : Sp := fun vs H Q _ => ∃ (st c : Addr) (m : Nat), vs = [.ref st, .int m] ∧ StAt H st c ∧ m ≤ 60 ∧ ∀ p ws H', H p = none → Wds ws m → StAt H' st c → Kp st H H' → H' p = some (.lst (ws.map V.str)) → Q (.ref p) H'
abbrev s_some_words : Stmt := top 24
theorem sc_some_words : FnScope ["_law_state", "_law_many_here", "_law_left", "_law_found", "_law_k"] ["_law_state", "_law_many_here"] (defScope s_some_words) := ⟨rfl, rfl, rfl, by decide +kernel, rfl, by decide +kernel, by decide +kernel⟩
theorem ok_some_wordsA {fT fW : Addr} {fdT fdW : FuncData} (F : Fun K "_law_some_words" "_law_some_words" s_some_words f fd) (T : Blt mg) (D_take : DefOk P w K mg base 2 "_law_take" fT fdT ["_law_state", "_law_many_here"] spTake)
    (D_all_words : DefOk P w K mg base 1 "_law_all_words" fW fdW [] spAllW) : FnOk P w K mg base CX0 3 f fd ["_law_state", "_law_many_here"] spSomeWA := by
  refine F.ok sc_some_words (fun vs H Q E h => ?_) (fun cdv A outer s H vs Q E hr h => ?_)
  · obtain ⟨st, c, m, rfl, _⟩ := h
    rfl
  · obtain ⟨st, c, m, rfl, S, hm, k⟩ := h
    refine ⟨_, (pss_cons (ps_par (i := 2) (j := 3) (by rfl) sc_some_words.nd rfl rfl (by decide) rfl rfl (pa_cons (pe_d0 D_all_words (hr.mono (by decide))) (pa_cons (pe_lst pa_nil) pa_nil)) (by rfl))
        (pss_cons (ps_for PassesOwn.never rfl (pi_range1 rfl T.b_range (pa_cons (pv 1) pa_nil)) (pg_name (i := 4) sc_some_words.nd rfl (by first | exact Or.inl rfl | exact Or.inr rfl)) (pss_one (ps_expr (pe_bm PySem.F.plainAttrs_list PySem.F.slot_list_append PySem.F.type_list_append mt_append (pv 3) (pa_cons (pe_bm PySem.F.plainAttrs_list PySem.F.slot_list_pop PySem.F.type_list_pop mt_popAt (pv 2) (pa_cons (pe_d D_take (hr.mono (by decide)) (pa_cons (pv 0) (pa_cons (pe_callB call_len_seq (by rfl) T.b_len PySem.boot_len (pa_cons (pv 2) pa_nil)) pa_nil))) pa_nil)) pa_nil)))))
        (pss_one (ps_ret (pv 3))))), ?_⟩
    refine ⟨rfl, fun l H1 nl e1 hl => ⟨by show 0 ≤ sizeLine; decide, fun fo nfo => ⟨_, _, rfl, ?_⟩⟩⟩
    have nfo' := e1.free nfo
    have hlf : l ≠ fo := ne_of_none hl nfo
    refine ⟨_, rfl, _, rfl, by omega, by omega, for_range (n := ((m : Int) - 0).toNat) (fun i σ' H' => ∃ (u : Option V) (F L : List Str), σ' = [some (.ref st), some (.int m), some (.ref l), some (.ref fo), u] ∧ F.length = i ∧ (F ++ L).Perm allW ∧ StAt H' st c ∧ Kp st H H' ∧ H' l = some (.lst (L.map V.str)) ∧ H' fo = some (.lst (F.map V.str)))
      ⟨none, [], allW, rfl, rfl, .refl _, (S.same e1).same (Same.upd' nfo), Kp.of (e1.trans (Same.upd' nfo)), by rw [upd_ne hlf]; exact hl, upd_same⟩ ?_ ?_⟩
    · rintro i σ' H' hi ⟨u, F, L, rfl, hF, hp, S', e, gl, gf⟩
      have hi : i < m := by omega
      have hlen : F.length + L.length = 65 := by
        have := hp.length_eq
        rw [List.length_append, allW_len] at this
        exact this
      obtain ⟨hls, hlc⟩ : l ≠ st ∧ l ≠ c := S.of_new nl
      obtain ⟨hfs, hfc⟩ : fo ≠ st ∧ fo ≠ c := S.of_new nfo'
      refine ⟨_, rfl, .inl ⟨rfl, _, SqL.of gf⟩, ?_⟩
      refine ⟨_, rfl, .inl ⟨rfl, _, SqL.of gl⟩, _, rfl, _, rfl, _, _, rfl, .inl (SqL.of gl), st, c, _, rfl, S', by simp; omega, by simp; omega, fun d H2 d0 d1 S2 e2 => ?_⟩
      have gl2 := e2 _ _ hls gl
      have gf2 := e2 _ _ hfs gf
      have hd : d.toNat < L.length := by simp at d1; omega
      refine ⟨l, _, d, d.toNat, _, rfl, rfl, gl2, by omega, by omega, PySem.seqIndex_of d0 (by simpa using d1), (by rw [List.getElem?_map, List.getElem?_eq_getElem hd]; rfl), ?_⟩
      refine ⟨_, _, _, rfl, rfl, by rw [upd_ne hlf.symm]; exact gf2, small1000 (by simp; omega), ?_⟩
      refine ⟨_, F ++ [L[d.toNat]], L.eraseIdx d.toNat, rfl, by simp [hF], ?_, (S2.mut hls hlc).mut hfs hfc, Kp.mut (Kp.mut (e.trans e2) nl) nfo', ?_, ?_⟩
      · refine List.Perm.trans ?_ hp
        rw [List.append_assoc]
        exact (perm_erase L d.toNat hd).append_left F
      · rw [upd_ne hlf, upd_same, erase_map]
      · rw [upd_same]
        simp
    · rintro σ' H' ⟨u, F, L, rfl, hF, hp, S', e, gl, gf⟩
      have hF : F.length = m := by omega
      exact ⟨_, rfl, k fo F H' nfo' (hF ▸ wds_of hp) (fun x hx => hp.mem_iff.mp (List.mem_append_left _ hx)) S' e gf⟩
theorem ok_some_words {fT fW : Addr} {fdT fdW : FuncData} (F : Fun K "_law_some_words" "_law_some_words" s_some_words f fd) (T : Blt mg) (D_take : DefOk P w K mg base 2 "_law_take" fT fdT ["_law_state", "_law_many_here"] spTake)
    (D_all_words : DefOk P w K mg base 1 "_law_all_words" fW fdW [] spAllW) : FnOk P w K mg base CX0 3 f fd ["_law_state", "_law_many_here"] spSomeW :=
  (ok_some_wordsA F T D_take D_all_words).imp fun vs H Q E ⟨st, c, m, h1, h2, h3, h4⟩ => ⟨st, c, m, h1, h2, h3, fun p ws H' a b _ d e g => h4 p ws H' a b d e g⟩
def spKept : Sp := fun vs H Q _ => ∃ (st c : Addr) (m : Nat), vs = [.ref st, .int m] ∧ StAt H st c ∧ m ≤ 60 ∧ ∀ p (S : Nat → Bool) H', H p = none → StAt H' st c → Kp st H H' → H' p = some (.lst (((List.range m).filter S).map fun i : Nat => V.int i)) → Q (.ref p) H'
abbrev s_kept : Stmt := top 26
theorem sc_kept : FnScope ["_law_state", "_law_many_here", "_law_wide", "_law_side", "_law_k"] ["_law_state", "_law_many_here"] (defScope s_kept) := ⟨rfl, rfl, rfl, by decide +kernel, rfl, by decide +kernel, by decide +kernel⟩
theorem ok_kept {fT fO : Addr} {fdT fdO : FuncData} (F : Fun K "_law_kept" "_law_kept" s_kept f fd) (T : Blt mg) (D_take : DefOk P w K mg base 2 "_law_take" fT fdT ["_law_state", "_law_many_here"] spTake)
    (D_one : DefOk P w K mg base 3 "_law_one" fO fdO ["_law_state", "_law_things"] (spOne K)) : FnOk P w K mg base CX0 4 f fd ["_law_state", "_law_many_here"] spKept := by
  refine F.ok sc_kept (fun vs H Q E h => ?_) (fun cdv A outer s H vs Q E hr h => ?_)
  · obtain ⟨st, c, m, rfl, _⟩ := h
    rfl
  · obtain ⟨st, c, m, rfl, S, hm, k⟩ := h
    refine ⟨_, (pss_cons (ps_asg (pe_tup (pa_cons (pe_d D_one (hr.mono (by decide)) (pa_cons (pv 0) (pa_cons (pe_tup (pa_cons pe_int (pa_cons pe_int (pa_cons pe_int (pa_cons pe_int (pa_cons pe_int pa_nil)))))) pa_nil))) (pa_cons (pe_d D_take (hr.mono (by decide)) (pa_cons (pv 0) (pa_cons pe_int pa_nil))) pa_nil))) (pg_tup rfl (pgs_cons (pg_name (i := 2) sc_kept.nd rfl (by first | exact Or.inl rfl | exact Or.inr rfl)) (pgs_cons (pg_name (i := 3) sc_kept.nd rfl (by first | exact Or.inl rfl | exact Or.inr rfl)) pgs_nil))))
        (pss_one (ps_ret (pe_lc (own := [("_law_k", 4)]) (g := gName 4) (tt := (tTest (tOp rEq (tOp rEq (tCall spTake [] E0 (tCons (tVar 0) (tCons (tVar 2) tNil))) (tC (.int 0))) (tOp rEq (tVar 3) (tC (.int 0)))))) (te := (tVar 4)) rfl sc_kept.nd (pi_range1 rfl T.b_range (pa_cons (pv 1) pa_nil)) (blkOk_by (own := [("_law_k", 4)]) (by kernel_rfl)) (fun _ _ _ _ _ => (pg_name (i := 4) sc_kept.nd rfl (by first | exact Or.inl rfl | exact Or.inr rfl))) (fun _ _ _ _ _ => by exact (pts_one (pt_cmpR op_eq (pe_cmpR op_eq (pe_d D_take (hr.mono (by decide)) (pa_cons (pv 0) (pa_cons (pv 2) pa_nil))) pe_int (nomark _)) (pe_cmpR op_eq (pv 3) pe_int (nomark _)) (nomark _)))) (fun _ _ _ _ _ => by exact (pv 4)))))), ?_⟩
    refine ⟨_, rfl, by show 5 ≤ sizeLine; decide, fun t nt => ?_⟩
    have hts := (S.of_new nt).1
    refine ⟨st, c, t, _, rfl, S.same (Same.upd' nt), hts, SqT.of upd_same, by show 0 < 5; decide, by show 5 < _; decide, fun v H1 hv S1 e1 => ?_⟩
    obtain ⟨wide, rfl, w0, w1⟩ : ∃ n : Int, v = .int n ∧ 0 < n ∧ n < 100 := by
      simp only [List.mem_cons, List.not_mem_nil, or_false] at hv
      rcases hv with rfl | rfl | rfl | rfl | rfl <;> exact ⟨_, rfl, by decide, by decide⟩
    refine ⟨_, rfl, st, c, 2, rfl, S1, by decide, by decide, fun side H2 s0 s1 S2 e2 => ?_⟩
    have e12 : Kp st H H2 := ((Kp.of (Same.upd' nt)).trans e1).trans e2
    refine ⟨by show 2 ≤ sizeLine; decide, fun t2 nt2 => ?_⟩
    refine ⟨t2, _, rfl, SqT.of upd_same, rfl, _, _, rfl, _, _, rfl, rfl, ?_⟩
    have S3 : StAt (upd H2 t2 (.tup [.int wide, .int side])) st c := S2.same (Same.upd' nt2)
    have e3 : Kp st H (upd H2 t2 (.tup [.int wide, .int side])) := e12.trans (Kp.of (Same.upd' nt2))
    refine ⟨_, rfl, _, rfl, by omega, by omega, fun D nD => ?_⟩
    have nDH : H D = none := e3.free (S3.of_new nD).1 nD
    refine lc_range (lo := 0) (n := (m : Int).toNat) (fun i H' => StAt H' st c ∧ Kp st H H' ∧ ∃ S : Nat → Bool, H' D = some (.lst (((List.range i).filter S).map fun i : Nat => V.int i))) ⟨S3.same (Same.upd' nD), Kp.mut e3 nDH, fun _ => false, upd_same⟩ ?_ ?_
    · rintro i H' hi ⟨S', e, B, hB⟩
      refine ⟨rfl, ?_⟩
      refine ⟨_, rfl, _, rfl, st, c, wide, rfl, S', w0, by omega, fun d H4 d0 d1 S4 e4 => ?_⟩
      refine ⟨rfl, _, rfl, rfl, rfl, _, rfl, ?_⟩
      have hDs := (S3.of_new nD).1
      have hDc := (S3.of_new nD).2
      have hB4 := e4 _ _ hDs hB
      have z : (0 : Int) + (i : Int) = (i : Int) := by omega
      refine ite2 (fun _ => ?_) (fun _ => ?_)
      · refine ⟨_, rfl, _, hB4, small1000 (by simp; exact Nat.le_trans (List.length_filter_le _ _) (by simp; omega)), S4.mut hDs hDc, Kp.mut (e.trans e4) nDH, fun j => if j = i then true else B j, ?_⟩
        rw [upd_same, List.range_succ, List.filter_append, List.map_append]
        have e5 : (List.range i).filter (fun j => if j = i then true else B j) = (List.range i).filter B := List.filter_congr fun j hj => by
          have : j ≠ i := by have := List.mem_range.mp hj; omega
          simp [this]
        rw [e5]
        simp
      · refine ⟨S4, e.trans e4, fun j => if j = i then false else B j, ?_⟩
        rw [hB4, List.range_succ, List.filter_append]
        have e5 : (List.range i).filter (fun j => if j = i then false else B j) = (List.range i).filter B := List.filter_congr fun j hj => by
          have : j ≠ i := by have := List.mem_range.mp hj; omega
          simp [this]
        rw [e5]
        simp
    · rintro H' ⟨S', e, B, hB⟩
      exact k D B H' nDH S' e (by simpa using hB)
end
end Lm

namespace Lm
open PySem L2
section
variable {P : Program} {w : World} {K : PySem.W.Frag} {mg : Str → Option Value} {base : Heap} {f : Addr} {fd : FuncData}
abbrev c_LETTERS : V := .str "abcdefghijklmnopqrstuvwxyz"
abbrev c_LONGEST_WORD : V := .int 8
/-- the module's constants -/
structure Cst (mg : Str → Option Value) (tL tW : Tok) : Prop where
  g_LETTERS : mg "LETTERS" = some (.str "abcdefghijklmnopqrstuvwxyz" tL)
  g_LONGEST_WORD : mg "LONGEST_WORD" = some (.int 8 tW)
def SeqAt (H : Hp) (a : Addr) (xs : List V) : Prop := H a = some (.lst xs) ∨ H a = some (.tup xs)
/-- is_number: of an int -/
def spIsNum : Sp := fun vs H Q _ => ∃ i : Int, vs = [.int i] ∧ Q (.bl true) H
def spUpTo : Sp := fun vs H Q _ => ∃ i n : Int, vs = [.int i, .int n] ∧ Q (.bl (decide (0 ≤ i ∧ i ≤ n))) H
def spIsRow : Sp := fun vs H Q _ => ∃ a xs, vs = [.ref a] ∧ SeqAt H a xs ∧ ∀ H', Same H H' → Q (.bl true) H'
abbrev s_is_row : Stmt := top 4
theorem sc_is_row : FnScope ["x"] ["x"] (defScope s_is_row) := ⟨rfl, rfl, rfl, by decide +kernel, rfl, by decide +kernel, by decide +kernel⟩
theorem ok_is_row (F : Fun K "is_row" "is_row" s_is_row f fd) (T : Blt mg) : FnOk P w K mg base CX0 1 f fd ["x"] spIsRow := by
  refine F.ok sc_is_row (fun vs H Q E h => ?_) (fun cdv A outer s H vs Q E hr h => ?_)
  · obtain ⟨a, xs, rfl, _⟩ := h
    rfl
  · obtain ⟨a, xs, rfl, hq, k⟩ := h
    refine ⟨_, (pss_one (ps_ret (pe_callB call_isiT (by rfl) T.b_isinstance (by decide +kernel) (pa_cons (pv 0) (pa_cons (pe_tup (pa_cons (pe_bltn (v := .ty "list") (u := .type "list") (by rfl) T.b_list (by decide +kernel) rfl) (pa_cons (pe_bltn (v := .ty "tuple") (u := .type "tuple") (by rfl) T.b_tuple (by decide +kernel) rfl) pa_nil))) pa_nil))))), ?_⟩
    refine ⟨_, rfl, by show 2 ≤ sizeLine; decide, fun p np => ?_⟩
    rcases hq with hq | hq
    · exact ⟨_, _, _, _, _, true, rfl, upd_same, .cons (.ty _) (.cons (.ty _) .nil), .base (.lst (by rw [upd_ne (ne_of_none hq np)]; exact hq)), kitAny_cons (b := true) (kit_ty (by decide +kernel)) (fun z => nomatch z) (fun _ => rfl), k _ (Same.upd' np)⟩
    · exact ⟨_, _, _, _, _, true, rfl, upd_same, .cons (.ty _) (.cons (.ty _) .nil), .base (.tup (by rw [upd_ne (ne_of_none hq np)]; exact hq)), kitAny_cons (b := false) (kit_ty (by decide +kernel)) (fun _ => kitAny_cons (b := true) (kit_ty (by decide +kernel)) (fun z => nomatch z) (fun _ => rfl)) (fun z => nomatch z), k _ (Same.upd' np)⟩
theorem isW_sign (c : Nat) : decide (c ∈ ("abcdefghijklmnopqrstuvwxyz" : Str).cps.toList) = (decide (97 ≤ c) && decide (c ≤ 122)) := by
  have e : ("abcdefghijklmnopqrstuvwxyz" : Str).cps.toList = List.range' 97 26 := by decide +kernel
  rw [e]
  simp only [List.mem_range'_1]
  by_cases h1 : 97 ≤ c <;> by_cases h2 : c ≤ 122 <;> simp [h1, h2] <;> omega
def spIsWord : Sp := fun vs H Q _ => ∃ x : Str, vs = [.str x] ∧ x.cps.size ≤ 1000 ∧ ∀ H', Same H H' → Q (.bl (isW x)) H'
abbrev s_is_word : Stmt := top 5
theorem sc_is_word : FnScope ["x", "sign"] ["x"] (defScope s_is_word) := ⟨rfl, rfl, rfl, by decide +kernel, rfl, by decide +kernel, by decide +kernel⟩
theorem ok_is_word (F : Fun K "is_word" "is_word" s_is_word f fd) (T : Blt mg) {tL tW : Tok} (T' : Cst mg tL tW) : FnOk P w K mg base CX0 1 f fd ["x"] spIsWord := by
  refine F.ok sc_is_word (fun vs H Q E h => ?_) (fun cdv A outer s H vs Q E hr h => ?_)
  · obtain ⟨x, rfl, _⟩ := h
    rfl
  · obtain ⟨x, rfl, hx, k⟩ := h
    refine ⟨_, (pss_cons (ps_if (pt_not (pt_val (pe_callB call_isi (by rfl) T.b_isinstance (by decide +kernel) (pa_cons (pv 0) (pa_cons (pe_bltn (v := .ty "str") (u := .type "str") (by rfl) T.b_str (by decide +kernel) rfl) pa_nil))))) (pss_one (ps_ret pe_bl)) pss_nil)
        (pss_one (ps_ret (pe_and (pe_chain op_le op_le pe_int (pe_callB call_len_str (by rfl) T.b_len PySem.boot_len (pa_cons (pv 0) pa_nil)) (pe_glob (v := c_LONGEST_WORD) rfl T'.g_LONGEST_WORD ⟨_, rfl⟩)) (pe_one (pe_callB (cr_all rfl) (by rfl) T.b_all (by decide +kernel) (by exact (pa_cons (pe_lc (own := [("sign", 1)]) (g := gName 1) (tt := tYes)/- R cmp -/ rfl sc_is_word.nd (pi_str (pv 0)) (blkOk_by (own := [("sign", 1)]) (by kernel_rfl)) (fun _ _ _ _ _ => (pg_name (i := 1) sc_is_word.nd rfl (by first | exact Or.inl rfl | exact Or.inr rfl))) (fun _ _ _ _ _ => pts_nil) (fun _ _ _ _ _ => by exact (pe_cmpR op_in_sign (pv 1) (pe_glob (v := c_LETTERS) rfl T'.g_LETTERS ⟨_, rfl⟩) rfl))) pa_nil)))))))), ?_⟩
    refine ⟨_, rfl, _, _, _, _, true, rfl, .ty _, .base (.str x), kit_ty (by decide +kernel), true, rfl, ?_⟩
    have hx' : x.length ≤ sizeLine := Nat.le_of_lt (small1000 hx)
    have hl : x.length = x.cps.size := rfl
    refine ⟨_, rfl, _, rfl, hx', _, _, rfl, rfl, _, rfl, ite2 (fun h0 => ?_) (fun h0 => ?_)⟩
    · have h0 : 1 ≤ x.cps.size := by have := of_decide_eq_true h0; omega
      refine ⟨_, _, rfl, rfl, _, rfl, ite2 (fun h1 => ?_) (fun h1 => ?_)⟩
      · have h1 : x.cps.size ≤ 8 := by have := of_decide_eq_true h1; omega
        refine ⟨_, rfl, x, rfl, fun D nD => lc_it walk_str (fun j H' => Same H H' ∧ H' D = some (.lst (((x.cps.toList.take j).map fun c => decide (97 ≤ c) && decide (c ≤ 122)).map V.bl))) ⟨Same.upd' nD, upd_same⟩ (fun _ _ _ _ => True.intro) ?_ ?_⟩
        · rintro j y H' H'' hj ⟨e, hD⟩ ⟨rfl, c, hc, rfl⟩
          refine ⟨rfl, _, rfl, _, _, rfl, rfl, _, hD, small1000 (by simp; omega), Same.mut e nD, ?_⟩
          have hc' : x.cps.toList[j]? = some c := by simpa using hc
          rw [upd_same, List.take_succ, hc', isW_sign]
          simp
        · rintro H' ⟨e, hD⟩
          refine ⟨_, _, rfl, SqL.of hD, ?_⟩
          have e2 : (((x.cps.toList.take x.cps.size).map fun c => decide (97 ≤ c) && decide (c ≤ 122)).all id) = isW x := by
            unfold isW
            rw [show x.cps.size = x.cps.toList.length from by simp, List.take_length]
            simp [h0, h1]
          have q := k H' e
          rw [← e2] at q
          exact q
      · have h1 : ¬ x.cps.size ≤ 8 := fun z => h1 (decide_eq_true (by show (x.length : Int) ≤ 8; omega))
        have e2 : isW x = false := by unfold isW; simp [h1]
        have q := k H (Same.refl H)
        rw [e2] at q
        exact q
    · have h0 : ¬ 1 ≤ x.cps.size := fun z => h0 (decide_eq_true (by show (1 : Int) ≤ x.length; omega))
      have e2 : isW x = false := by unfold isW; simp [h0]
      have q := k H (Same.refl H)
      rw [e2] at q
      exact ⟨false, rfl, q⟩
end
end Lm

namespace Lm
open PySem L2
/-! ### a work as it stands in the heap -/
theorem n_nw : ¬ (("name" : Str) = "words") := by decide +kernel
theorem n_ne : ¬ (("name" : Str) = "ends") := by decide +kernel
theorem n_we : ¬ (("words" : Str) = "ends") := by decide +kernel
def wkF (nm : Str) (t d : Addr) : List (Str × V) := [("name", .str nm), ("words", .ref t), ("ends", .ref d)]
theorem wk_name (nm : Str) (t d : Addr) : (wkF nm t d).lookup ("name" : Str) = some (.str nm) := by simp [wkF, List.lookup]
theorem wk_words (nm : Str) (t d : Addr) : (wkF nm t d).lookup ("words" : Str) = some (.ref t) := by
  have e : (("words" : Str) == "name") = false := by decide +kernel
  simp [wkF, List.lookup, e]
theorem wk_ends (nm : Str) (t d : Addr) : (wkF nm t d).lookup ("ends" : Str) = some (.ref d) := by
  have e : (("ends" : Str) == "name") = false := by decide +kernel
  have e2 : (("ends" : Str) == "words") = false := by decide +kernel
  simp [wkF, List.lookup, e, e2]
theorem wk_no (nm : Str) (t d : Addr) {m : Str} (h1 : (m == "name") = false) (h2 : (m == "words") = false) (h3 : (m == "ends") = false) : (wkF nm t d).lookup m = none := by simp [wkF, List.lookup, h1, h2, h3]
theorem wk_put (nm : Str) (t d : Addr) : putF "ends" (.ref d) (putF "words" (.ref t) (putF "name" (.str nm) [])) = wkF nm t d := by
  simp [putF, wkF, n_nw, n_ne, n_we]
theorem wk_l1 (nm : Str) : (putF "name" (.str nm) []).length < 1000 := by simp [putF]
theorem wk_l2 (nm : Str) (t : Addr) : (putF "words" (.ref t) (putF "name" (.str nm) [])).length < 1000 := by simp [putF, n_nw]
/-- the cuts behind the words -/
def endsL : Nat → List Str → List (Key × V)
  | _, [] => []
  | n, x :: r => (Sum.inr x, V.int ((n : Int) + 1)) :: endsL (n + 1) r
theorem endsL_len : ∀ n ws, (endsL n ws).length = ws.length
  | _, [] => rfl
  | n, x :: r => by show (endsL (n + 1) r).length + 1 = r.length + 1; rw [endsL_len]
theorem endsL_app : ∀ n ws x, endsL n (ws ++ [x]) = endsL n ws ++ [(Sum.inr x, V.int ((n : Int) + (ws.length : Int) + 1))]
  | n, [], x => by simp [endsL]
  | n, y :: r, x => by
    show _ :: endsL (n + 1) (r ++ [x]) = _ :: (endsL (n + 1) r ++ _)
    rw [endsL_app (n + 1) r x]
    congr 4
    simp only [List.length_cons]
    congr 1
    omega
theorem endsL_no : ∀ n ws (x : Str), x ∉ ws → valV (endsL n ws) (Sum.inr x : Key) = none
  | _, [], _, _ => rfl
  | n, y :: r, x, h => by
    have h1 : ¬ ((Sum.inr y : Key) = Sum.inr x) := fun e => h (by rw [← Sum.inr.inj e]; exact List.mem_cons_self)
    unfold endsL
    rw [valV_neg h1]
    exact endsL_no (n + 1) r x fun z => h (List.mem_cons_of_mem _ z)
theorem endsL_at : ∀ n ws (i : Nat) (x : Str), ws.Nodup → ws[i]? = some x → valV (endsL n ws) (Sum.inr x : Key) = some (V.int ((n : Int) + (i : Int) + 1))
  | _, [], i, _, _, h => by simp at h
  | n, y :: r, 0, x, _, h => by
    have e : y = x := Option.some.inj h
    subst e
    unfold endsL
    rw [valV_pos rfl]
    simp
  | n, y :: r, i + 1, x, nd, h => by
    have hx : r[i]? = some x := h
    have ne : ¬ ((Sum.inr y : Key) = Sum.inr x) := fun e => (List.nodup_cons.mp nd).1 (by rw [Sum.inr.inj e]; exact List.mem_of_getElem? hx)
    unfold endsL
    rw [valV_neg ne, endsL_at (n + 1) r i x (List.nodup_cons.mp nd).2 hx]
    congr 2
    omega
/-- the work of the name nm and the words ws, at a -/
structure WkAt (C : Addr) (H : Hp) (a : Addr) (nm : Str) (ws : List Str) : Prop where
  ob : ∃ dx t d, H a = some (.ins C dx (wkF nm t d)) ∧ H t = some (.tup (ws.map V.str)) ∧ H d = some (.dK (endsL 0 ws))
theorem WkAt.same {C : Addr} {H H' : Hp} {a : Addr} {nm : Str} {ws : List Str} (k : WkAt C H a nm ws) (e : Same H H') : WkAt C H' a nm ws := by
  obtain ⟨⟨dx, t, d, h1, h2, h3⟩⟩ := k
  exact ⟨⟨dx, t, d, e _ _ h1, e _ _ h2, e _ _ h3⟩⟩
/-- what stands at st changes, a list -/
theorem WkAt.kp {C st : Addr} {H H' : Hp} {a : Addr} {nm : Str} {ws : List Str} {xs : List V} (k : WkAt C H a nm ws) (e : Kp st H H') (hs : H st = some (.lst xs)) : WkAt C H' a nm ws := by
  obtain ⟨⟨dx, t, d, h1, h2, h3⟩⟩ := k
  exact ⟨⟨dx, t, d, e _ _ (ne_of h1 hs (by intro z; cases z)) h1, e _ _ (ne_of h2 hs (by intro z; cases z)) h2, e _ _ (ne_of h3 hs (by intro z; cases z)) h3⟩⟩
/-- for i, x in enumerate(a), a list or a tuple that stands still -/
theorem for_enumA {K : PySem.W.Frag} {a : Addr} {xs : List V} {g : TG} {tb : TS} {D : Ends} {σ : St} {H : Hp} (hq : SeqAt H a xs) (Pv : Nat → St → Hp → Prop) (h0 : Pv 0 σ H) (hG : ∀ i σ' H', i ≤ xs.length → Pv i σ' H' → ∀ o, H a = some o → H' a = some o)
    (hs : ∀ i x σ H H', i < xs.length → Pv i σ H → YPair (fun i => some (.int (i : Nat))) (fun i => xs[i]?) i H x H' → g x σ H' fun σ2 H2 => tb { D with nx := Pv (i + 1), ct := Pv (i + 1), bk := D.nx } σ2 H2) (hd : ∀ σ H, Pv xs.length σ H → D.nx σ H) :
    ∃ a' xs', [V.ref a] = [V.ref a'] ∧ ((SqL K H a' xs' ∧ ∃ W : Nat → Nat → St → Hp → Prop, (∃ m, W 0 m σ H) ∧ ∀ i m σ H, W i m σ H →
      ((Ite K a').stop i H ∧ D.nx σ H) ∨ ((Ite K a').go i H ∧ ∃ N : St → Hp → Prop, (∀ σ' H', N σ' H' → ∃ m', m' < m ∧ W (i + 1) m' σ' H') ∧ ∀ x H', (Ite K a').yld i H x H' → g x σ H' fun σ2 H2 => tb { D with nx := N, ct := N, bk := D.nx } σ2 H2)) ∨
      (SqT K H a' xs' ∧ ∃ W : Nat → Nat → St → Hp → Prop, (∃ m, W 0 m σ H) ∧ ∀ i m σ H, W i m σ H →
      ((IteT K a').stop i H ∧ D.nx σ H) ∨ ((IteT K a').go i H ∧ ∃ N : St → Hp → Prop, (∀ σ' H', N σ' H' → ∃ m', m' < m ∧ W (i + 1) m' σ' H') ∧ ∀ x H', (IteT K a').yld i H x H' → g x σ H' fun σ2 H2 => tb { D with nx := N, ct := N, bk := D.nx } σ2 H2))) := by
  rcases hq with hq | hq
  · exact ⟨a, xs, rfl, .inl ⟨SqL.of hq, for_it walk_enum Pv h0 (fun i σ' H' hi p => SqL.of (hG i σ' H' hi p _ hq)) hs hd⟩⟩
  · exact ⟨a, xs, rfl, .inr ⟨SqT.of hq, for_it walk_enumT Pv h0 (fun i σ' H' hi p => SqT.of (hG i σ' H' hi p _ hq)) hs hd⟩⟩
section
variable {P : Program} {w : World} {K : PySem.W.Frag} {mg : Str → Option Value} {base : Heap} {f : Addr} {fd : FuncData}
/-- what the walk asks of the class Work -/
structure WkTxt (K : PySem.W.Frag) (C : Addr) : Prop where
  cl : Cls K C
  nN : NoAttr K C "name"
  nW : NoAttr K C "words"
  nE : NoAttr K C "ends"
def spWkInit (C : Addr) : Sp := fun vs H Q _ => ∃ (p dx a : Addr) (nm : Str) (ws : List Str), vs = [.ref p, .str nm, .ref a] ∧ H p = some (.ins C dx []) ∧ SeqAt H a (ws.map V.str) ∧ isW nm = true ∧ Wds ws ws.length ∧ 0 < ws.length ∧ ws.length ≤ 60 ∧
  ∀ H', WkAt C H' p nm ws → Kp p H H' → Q .non H'
abbrev s_Work_init : Stmt := inClass (top 12) 0
theorem sc_Work_init : FnScope ["self", "name", "passages", "ends", "index", "word"] ["self", "name", "passages"] (defScope s_Work_init) := ⟨rfl, rfl, rfl, by decide +kernel, rfl, by decide +kernel, by decide +kernel⟩
theorem isW_size {x : Str} (h : isW x = true) : x.cps.size ≤ 1000 := by
  unfold isW at h
  simp at h
  omega
theorem ok_wk_init {C fI fR : Addr} {fdI fdR : FuncData} (F : Fun K "__init__" "Work.__init__" s_Work_init f fd) (T : Blt mg) (W : WkTxt K C) (D_is_word : DefOk P w K mg base 1 "is_word" fI fdI ["x"] spIsWord) (D_is_row : DefOk P w K mg base 1 "is_row" fR fdR ["x"] spIsRow) :
    FnOk P w K mg base CX0 2 f fd ["self", "name", "passages"] (spWkInit C) := by
  refine F.ok sc_Work_init (fun vs H Q E h => ?_) (fun cdv A outer s H vs Q E hr h => ?_)
  · obtain ⟨p, dx, a, nm, ws, rfl, _⟩ := h
    rfl
  · obtain ⟨p, dx, a, nm, ws, rfl, hp, hq, hnm, hw, l0, l1, k⟩ := h
    have hu := hu_of hr
    have hap : a ≠ p := by
      rcases hq with hq | hq
      · exact ne_of hq hp (by intro z; cases z)
      · exact ne_of hq hp (by intro z; cases z)
    refine ⟨_, (pss_cons (ps_if (pt_not (pt_val (pe_d D_is_word (hr.mono (by decide)) (pa_cons (pv 1) pa_nil)))) (pss_one ps_never) pss_nil)
        (pss_cons (ps_if (PW.pt (pw_or (pt_not (pt_val (pe_d D_is_row (hr.mono (by decide)) (pa_cons (pv 2) pa_nil)))) (pw_or1 (pt_cmpR op_eq (pe_callB call_len_seq (by rfl) T.b_len PySem.boot_len (pa_cons (pv 2) pa_nil)) pe_int (nomark _))))) (pss_one ps_never) pss_nil)
        (pss_cons (ps_set (i := 3) sc_Work_init.nd rfl (by first | exact Or.inl rfl | exact Or.inr rfl) pe_dnewK)
        (pss_cons (ps_for PassesOwn.never rfl (pi_enumA rfl T.b_enumerate (pa_cons (pv 2) pa_nil)) (pg_tup rfl (pgs_cons (pg_name (i := 4) sc_Work_init.nd rfl (by first | exact Or.inl rfl | exact Or.inr rfl)) (pgs_cons (pg_name (i := 5) sc_Work_init.nd rfl (by first | exact Or.inl rfl | exact Or.inr rfl)) pgs_nil))) (pss_cons (ps_if (PW.pt (pw_or (pt_not (pt_val (pe_d D_is_word (hr.mono (by decide)) (pa_cons (pv 5) pa_nil)))) (pw_or1 (pt_cmp (pc_din hu (pv 5) (pv 3)))))) (pss_one ps_never) pss_nil)
        (pss_one (ps_dput hu (pv 3) (pv 5) (pe_op op_add (pv 4) pe_int) rfl))))
        (pss_cons (ps_fld (pv 0) (pv 1) rfl)
        (pss_cons (ps_fld (pv 0) (pe_callTy call_tuple_of (by rfl) T.b_tuple (by decide +kernel) (pa_cons (pv 2) pa_nil)) rfl)
        (pss_one (ps_fld (pv 0) (pv 3) rfl)))))))), ?_⟩
    refine ⟨_, rfl, nm, rfl, isW_size hnm, fun H1 e1 => ⟨_, rfl, ?_⟩⟩
    rw [hnm]
    have hq1 : SeqAt H1 a (ws.map V.str) := hq.elim (fun h => .inl (e1 _ _ h)) fun h => .inr (e1 _ _ h)
    refine ⟨_, rfl, a, _, rfl, hq1, fun H2 e2 => ⟨_, rfl, ?_⟩⟩
    have hq2 : SeqAt H2 a (ws.map V.str) := hq1.elim (fun h => .inl (e2 _ _ h)) fun h => .inr (e2 _ _ h)
    have hl : ¬ (V.int ((ws.map V.str).length : Int) = V.int 0) := by
      intro z
      have : ((ws.map V.str).length : Int) = 0 := V.int.inj z
      rw [List.length_map] at this
      omega
    refine ⟨_, rfl, _, _, rfl, (hq2.elim (fun h => .inl (SqL.of h)) fun h => .inr (SqT.of h)), rfl, _, rfl, ?_⟩
    rw [decide_eq_false hl]
    intro d nd
    have hq3 : SeqAt (upd H2 d (.dK [])) a (ws.map V.str) := hq2.elim (fun h => .inl (Same.upd' nd _ _ h)) fun h => .inr (Same.upd' nd _ _ h)
    have eH : Same H (upd H2 d (.dK [])) := (e1.trans e2).trans (Same.upd' nd)
    have ndH : H d = none := (e1.trans e2).free nd
    have hdp : d ≠ p := (ne_of_none hp ndH).symm
    refine ⟨_, rfl, for_enumA hq3 (fun i σ' H' => ∃ u v : Option V, σ' = [some (.ref p), some (.str nm), some (.ref a), some (.ref d), u, v] ∧ H' d = some (.dK (endsL 0 (ws.take i))) ∧ ∀ b o, H b = some o → H' b = some o)
      ⟨none, none, rfl, upd_same, eH⟩ ?_ ?_ ?_⟩
    · rintro i σ' H' _ ⟨u, v, rfl, gd, e⟩ o ho
      rcases hq with hq | hq
      · rw [eH _ _ hq] at ho
        rw [← ho]; exact e _ _ hq
      · rw [eH _ _ hq] at ho
        rw [← ho]; exact e _ _ hq
    · rintro i y σ' H' H'' hi ⟨u, v, rfl, gd, e⟩ ⟨T', x1, x2, rfl, nT, rfl, hx1, hx2⟩
      cases (Option.some.inj hx1)
      have hx2 : (List.map V.str ws)[i]? = some x2 := hx2
      rw [List.getElem?_map] at hx2
      obtain ⟨x, hx, rfl⟩ : ∃ x, ws[i]? = some x ∧ V.str x = x2 := by
        cases q : ws[i]? with
        | none => rw [q] at hx2; cases hx2
        | some x => rw [q] at hx2; exact ⟨x, rfl, Option.some.inj hx2⟩
      have hTd : T' ≠ d := (ne_of_none gd nT).symm
      have gd2 : (upd H' T' (.tup [.int (i : Nat), .str x])) d = some (.dK (endsL 0 (ws.take i))) := by rw [upd_ne hTd.symm]; exact gd
      have hwx : isW x = true := hw.wd x (List.mem_of_getElem? hx)
      have hno : x ∉ ws.take i := fun z => by
        obtain ⟨j, hj, e⟩ := List.mem_iff_getElem.mp z
        rw [List.getElem_take] at e
        have hj' : j < i := by rw [List.length_take] at hj; omega
        have := nd_ix hw.nd (i := j) (j := i) (x := x) (by rw [List.getElem?_eq_getElem (by rw [List.length_take] at hj; omega), e]) hx
        omega
      refine ⟨T', _, rfl, SqT.of upd_same, rfl, _, _, rfl, _, _, rfl, rfl, ?_⟩
      refine ⟨_, rfl, x, rfl, isW_size hwx, fun H3 e3 => ⟨_, rfl, ?_⟩⟩
      rw [hwx]
      have gd3 := e3 _ _ gd2
      refine ⟨_, rfl, _, rfl, d, _, rfl, DGet.k (k := Sum.inr x) gd3, ?_⟩
      rw [endsL_no 0 _ x hno]
      refine ⟨_, rfl, ?_⟩
      refine ⟨_, rfl, _, _, rfl, rfl, _, rfl, _, rfl, d, _, rfl, DPut.k (k := Sum.inr x) gd3 (small1000 (by rw [endsL_len, List.length_take]; omega)), ?_⟩
      refine ⟨_, _, rfl, ?_, ?_⟩
      · rw [upd_same, putK_new _ (endsL_no 0 _ x hno), List.take_succ, hx, Option.toList_some, endsL_app]
        rw [List.length_take, Nat.min_eq_left (by have := (List.getElem?_eq_some_iff.mp hx).1; omega)]
        simp
      · intro b o hb
        have hbd : b ≠ d := ne_of_none hb ndH
        rw [upd_ne hbd]
        exact e3 _ _ (Same.upd' nT _ _ (e _ _ hb))
    · rintro σ' H' ⟨u, v, rfl, gd, e⟩
      rw [List.length_map, List.take_length] at gd
      have hpd : p ≠ d := hdp.symm
      -- behind the words, which lie at t
      have fin : ∀ (t : Addr) (H3 : Hp), H3 p = some (.ins C dx (putF "name" (.str nm) [])) → H3 t = some (.tup (ws.map V.str)) → H3 d = some (.dK (endsL 0 ws)) → Kp p H H3 → t ≠ p → Q .non
          (upd (upd H3 p (.ins C dx (putF "words" (.ref t) (putF "name" (.str nm) [])))) p (.ins C dx (putF "ends" (.ref d) (putF "words" (.ref t) (putF "name" (.str nm) []))))) := by
        intro t H3 g1 g2 g3 g4 htp
        refine k _ ⟨⟨dx, t, d, by rw [upd_same, wk_put], by rw [upd_ne htp, upd_ne htp]; exact g2, by rw [upd_ne hdp, upd_ne hdp]; exact g3⟩⟩ ((g4.trans (Kp.upd _ _ _)).trans (Kp.upd _ _ _))
      refine ⟨_, rfl, _, rfl, p, C, dx, _, rfl, e _ _ hp, W.cl, W.nN, by decide, ?_⟩
      have kp3 : Kp p H (upd H' p (.ins C dx (putF "name" (.str nm) []))) := (Kp.of e).trans (Kp.upd _ _ _)
      rcases hq with hq | hq
      · refine ⟨_, rfl, a, _, rfl, .inl ⟨SqL.of (kp3 _ _ hap hq), fun t nt => ?_⟩⟩
        have htp : t ≠ p := (ne_of_none upd_same nt).symm
        have htd : t ≠ d := (ne_of_none (by rw [upd_ne hdp]; exact gd) nt).symm
        have g1 : (upd (upd H' p (.ins C dx (putF "name" (.str nm) []))) t (.tup (ws.map V.str))) p = some (.ins C dx (putF "name" (.str nm) [])) := by rw [upd_ne htp.symm, upd_same]
        refine ⟨_, rfl, p, C, dx, _, rfl, g1, W.cl, W.nW, wk_l1 _, ?_⟩
        refine ⟨_, rfl, _, rfl, p, C, dx, _, rfl, upd_same, W.cl, W.nE, wk_l2 _ _, ?_⟩
        exact fin t _ g1 upd_same (by rw [upd_ne htd.symm, upd_ne hdp]; exact gd) (kp3.trans (Kp.of (Same.upd' nt))) htp
      · refine ⟨_, rfl, a, _, rfl, .inr ⟨SqT.of (kp3 _ _ hap hq), ?_⟩⟩
        refine ⟨_, rfl, p, C, dx, _, rfl, upd_same, W.cl, W.nW, wk_l1 _, ?_⟩
        refine ⟨_, rfl, _, rfl, p, C, dx, _, rfl, upd_same, W.cl, W.nE, wk_l2 _ _, ?_⟩
        exact fin a _ upd_same (kp3 _ _ hap hq) (by rw [upd_ne hdp]; exact gd) kp3 hap
end
end Lm

namespace Lm
open PySem L2
theorem valV_mem {ws : List Str} (nd : ws.Nodup) (x : Str) : (valV (endsL 0 ws) (Sum.inr x : Key)).isSome = decide (x ∈ ws) := by
  by_cases h : x ∈ ws
  · obtain ⟨i, hi, e⟩ := List.mem_iff_getElem.mp h
    rw [endsL_at 0 ws i x nd (by rw [List.getElem?_eq_getElem hi, e]), decide_eq_true h]
    rfl
  · rw [endsL_no 0 ws x h, decide_eq_false h]
    rfl
section
variable {P : Program} {w : World} {K : PySem.W.Frag} {mg : Str → Option Value} {base : Heap} {f : Addr} {fd : FuncData}
def spWkLen (C : Addr) : Sp := fun vs H Q _ => ∃ (a : Addr) (nm : Str) (ws : List Str), vs = [.ref a] ∧ WkAt C H a nm ws ∧ Q (.int ws.length) H
abbrev s_Work_len : Stmt := inClass (top 12) 4
theorem sc_Work_len : FnScope ["self"] ["self"] (defScope s_Work_len) := ⟨rfl, rfl, rfl, by decide +kernel, rfl, by decide +kernel, by decide +kernel⟩
theorem ok_wk_len {C : Addr} (F : Fun K "__len__" "Work.__len__" s_Work_len f fd) (T : Blt mg) (W : WkTxt K C) : FnOk P w K mg base CX0 1 f fd ["self"] (spWkLen C) := by
  refine F.ok sc_Work_len (fun vs H Q E h => ?_) (fun cdv A outer s H vs Q E hr h => ?_)
  · obtain ⟨a, nm, ws, rfl, _⟩ := h
    rfl
  · obtain ⟨a, nm, ws, rfl, ⟨dx, t, d, h1, h2, h3⟩, k⟩ := h
    refine ⟨_, (pss_one (ps_ret (pe_callB call_len_seq (by rfl) T.b_len PySem.boot_len (pa_cons (pe_fld (pv 0) rfl) pa_nil)))), ?_⟩
    refine ⟨_, rfl, a, C, dx, _, _, rfl, h1, W.cl, W.nW, wk_words _ _ _, t, _, rfl, .inr (SqT.of h2), ?_⟩
    rw [List.length_map]
    exact k
def spWkIn (C : Addr) : Sp := fun vs H Q _ => ∃ (a : Addr) (x nm : Str) (ws : List Str), vs = [.ref a, .str x] ∧ WkAt C H a nm ws ∧ ws.Nodup ∧ Q (.bl (decide (x ∈ ws))) H
abbrev s_Work_contains : Stmt := inClass (top 12) 5
theorem sc_Work_contains : FnScope ["self", "x"] ["self", "x"] (defScope s_Work_contains) := ⟨rfl, rfl, rfl, by decide +kernel, rfl, by decide +kernel, by decide +kernel⟩
theorem ok_wk_in {C : Addr} (F : Fun K "__contains__" "Work.__contains__" s_Work_contains f fd) (T : Blt mg) (W : WkTxt K C) : FnOk P w K mg base CX0 1 f fd ["self", "x"] (spWkIn C) := by
  refine F.ok sc_Work_contains (fun vs H Q E h => ?_) (fun cdv A outer s H vs Q E hr h => ?_)
  · obtain ⟨a, x, nm, ws, rfl, _⟩ := h
    rfl
  · obtain ⟨a, x, nm, ws, rfl, ⟨dx, t, d, h1, h2, h3⟩, nd, k⟩ := h
    have hu := hu_of hr
    refine ⟨_, (pss_one (ps_ret (pe_and (pe_callB call_isi (by rfl) T.b_isinstance (by decide +kernel) (pa_cons (pv 1) (pa_cons (pe_bltn (v := .ty "str") (u := .type "str") (by rfl) T.b_str (by decide +kernel) rfl) pa_nil))) (pe_one (pe_cmp (pc_din hu (pv 1) (pe_fld (pv 0) rfl)) rfl))))), ?_⟩
    refine ⟨_, rfl, _, _, _, _, true, rfl, .ty _, .base (.str x), kit_ty (by decide +kernel), true, rfl, ?_⟩
    refine ⟨_, rfl, _, rfl, a, C, dx, _, _, rfl, h1, W.cl, W.nE, wk_ends _ _ _, d, _, rfl, DGet.k (k := Sum.inr x) h3, ?_⟩
    rw [valV_mem nd]
    exact k
def spWkEnd (C : Addr) : Sp := fun vs H Q _ => ∃ (a : Addr) (x nm : Str) (ws : List Str) (i : Nat), vs = [.ref a, .str x] ∧ WkAt C H a nm ws ∧ ws.Nodup ∧ ws[i]? = some x ∧ Q (.int ((i : Int) + 1)) H
abbrev s_Work_end_of : Stmt := inClass (top 12) 3
theorem sc_Work_end_of : FnScope ["self", "word"] ["self", "word"] (defScope s_Work_end_of) := ⟨rfl, rfl, rfl, by decide +kernel, rfl, by decide +kernel, by decide +kernel⟩
theorem ok_wk_end {C fI : Addr} {fdI : FuncData} (F : Fun K "end_of" "Work.end_of" s_Work_end_of f fd) (T : Blt mg) (W : WkTxt K C) (M_Work_contains : MetOk P w K mg base 1 C "__contains__" fI fdI ["self", "x"] (spWkIn C)) : FnOk P w K mg base CX0 2 f fd ["self", "word"] (spWkEnd C) := by
  refine F.ok sc_Work_end_of (fun vs H Q E h => ?_) (fun cdv A outer s H vs Q E hr h => ?_)
  · obtain ⟨a, x, nm, ws, i, rfl, _⟩ := h
    rfl
  · obtain ⟨a, x, nm, ws, i, rfl, kw, nd, hi, k⟩ := h
    obtain ⟨dx, t, d, h1, h2, h3⟩ := kw.ob
    have hu := hu_of hr
    have hx : x ∈ ws := List.mem_of_getElem? hi
    refine ⟨_, (pss_one (ps_ret (pe_ifExp (pt_cmpR (M_Work_contains.isin (hr.mono (by decide))) (pv 1) (pv 0) (by rfl)) (pe_dget hu (pe_fld (pv 0) rfl) (pv 1) (fun _ _ => rfl)) pe_int))), ?_⟩
    refine ⟨_, rfl, _, rfl, a, dx, _, rfl, h1, a, x, nm, ws, rfl, kw, nd, _, rfl, ?_⟩
    rw [decide_eq_true hx]
    refine ⟨_, rfl, ?_⟩
    have hg : DGet H d (.str x) (some (.int (((0 : Nat) : Int) + (i : Int) + 1))) := by
      have := DGet.k (k := Sum.inr x) h3
      rw [endsL_at 0 ws i x nd hi] at this
      exact this
    have e0 : ((0 : Nat) : Int) + (i : Int) + 1 = (i : Int) + 1 := by omega
    rw [e0] at hg
    exact ⟨_, rfl, a, C, dx, _, _, rfl, h1, W.cl, W.nE, wk_ends _ _ _, _, rfl, d, _, rfl, hg, k⟩
/-! ### == -/
theorem dpAll_strs {H : Hp} : ∀ ws : List Str, DpAll K H (ws.map V.str) (ws.map PyData.str)
  | [] => .nil
  | x :: r => .cons (.str x) (dpAll_strs r)
theorem isW_ok {x : Str} (h : isW x = true) : PyData.strOk x = true := by
  unfold isW at h
  simp only [Bool.and_eq_true, List.all_eq_true, decide_eq_true_eq] at h
  unfold PyData.strOk
  rw [Array.all_eq_true']
  intro c hc
  have := (h.2 c (by simpa using hc)).2
  simp
  omega
theorem depth_strs : ∀ ws : List Str, PyData.depthAll (ws.map PyData.str) = 0
  | [] => rfl
  | x :: r => by
    show max (PyData.depth (.str x)) (PyData.depthAll (r.map PyData.str)) = 0
    rw [depth_strs r]
    rfl
theorem lay_strs : ∀ ws : List Str, (∀ x ∈ ws, isW x = true) → PyData.canLayAll0 (ws.map PyData.str) = true
  | [], _ => rfl
  | x :: r, h => by
    show (PyData.strOk x && PyData.canLayAll0 (r.map PyData.str)) = true
    rw [isW_ok (h x List.mem_cons_self), lay_strs r fun y hy => h y (List.mem_cons_of_mem _ hy)]
    rfl
theorem shaped_strs (ws : List Str) (h : ∀ x ∈ ws, isW x = true) : PySem.SeqAt.shaped (.tuple (ws.map PyData.str)) = true := by
  show (PyData.canLayAll0 (ws.map PyData.str) && decide (PyData.depthAll (ws.map PyData.str) + 1 ≤ 64)) = true
  rw [lay_strs ws h, depth_strs]
  rfl
theorem eqvAll_strs : ∀ ws vs : List Str, PyData.eqvAll (ws.map PyData.str) (vs.map PyData.str) = decide (ws = vs)
  | [], [] => rfl
  | [], _ :: _ => rfl
  | _ :: _, [] => rfl
  | x :: r, y :: t => by
    show ((x == y) && PyData.eqvAll (r.map PyData.str) (t.map PyData.str)) = decide (x :: r = y :: t)
    rw [eqvAll_strs r t]
    by_cases h1 : x = y <;> by_cases h2 : r = t <;> simp [h1, h2]
theorem eqv_strs (ws vs : List Str) : PyData.eqv (.tuple (ws.map PyData.str)) (.tuple (vs.map PyData.str)) = decide (ws = vs) := eqvAll_strs ws vs
def spWkEq (C : Addr) : Sp := fun vs H Q _ => ∃ (a b : Addr) (nm nm' : Str) (ws ws' : List Str), vs = [.ref a, .ref b] ∧ WkAt C H a nm ws ∧ WkAt C H b nm' ws' ∧ (∀ x ∈ ws, isW x = true) ∧ (∀ x ∈ ws', isW x = true) ∧ Q (.bl (decide (nm = nm' ∧ ws = ws'))) H
structure WkIsi (K : PySem.W.Frag) (mg : Str → Option Value) (C : Addr) : Prop where
  g_Work : mg "Work" = some (.ref C)
  ha : PySem.W.findIn K (.ref C) "__class__" = some (some (.builtin "object.__class__"))
  hn : PySem.W.specialIn K (.builtin "object.__class__") "__get__" = some (some (.builtin "getset_descriptor.__get__"))
  htk : PySem.W.takesIn K (.builtin "object.__class__") = some true
  hm : PySem.W.mroIn K C (.type "object") = some true
  ko : PySem.W.kitOne K (.ref C) (.ref C) = some true
abbrev s_Work_eq : Stmt := inClass (top 12) 6
theorem sc_Work_eq : FnScope ["self", "other"] ["self", "other"] (defScope s_Work_eq) := ⟨rfl, rfl, rfl, by decide +kernel, rfl, by decide +kernel, by decide +kernel⟩
theorem ok_wk_eq {C : Addr} (F : Fun K "__eq__" "Work.__eq__" s_Work_eq f fd) (T : Blt mg) (W : WkTxt K C) (T' : WkIsi K mg C) : FnOk P w K mg base CX0 1 f fd ["self", "other"] (spWkEq C) := by
  refine F.ok sc_Work_eq (fun vs H Q E h => ?_) (fun cdv A outer s H vs Q E hr h => ?_)
  · obtain ⟨a, b, nm, nm', ws, ws', rfl, _⟩ := h
    rfl
  · obtain ⟨a, b, nm, nm', ws, ws', rfl, ⟨dx, t, d, h1, h2, h3⟩, ⟨dy, t', d', g1, g2, g3⟩, l1, l2, k⟩ := h
    refine ⟨_, (pss_one (ps_ret (pe_and (pe_callB call_isi (by rfl) T.b_isinstance (by decide +kernel) (pa_cons (pv 1) (pa_cons (pe_glob (v := .ref _) rfl T'.g_Work rfl) pa_nil))) (pe_and (pe_cmpR op_eq (pe_fld (pv 0) rfl) (pe_fld (pv 1) rfl) (nomark _)) (pe_one (pe_cmpR (op_eqD hr.units) (pe_fld (pv 0) rfl) (pe_fld (pv 1) rfl) (nomark _))))))), ?_⟩
    refine ⟨_, rfl, _, _, _, _, true, rfl, .own C, .base (.ins g1 W.cl T'.ha T'.hn T'.htk T'.hm), T'.ko, true, rfl, ?_⟩
    refine ⟨_, rfl, a, C, dx, _, _, rfl, h1, W.cl, W.nN, wk_name _ _ _, _, rfl, b, C, dy, _, _, rfl, g1, W.cl, W.nN, wk_name _ _ _, rfl, _, rfl, ite2 (fun hn => ?_) (fun hn => ?_)⟩
    · have hn : nm = nm' := V.str.inj (of_decide_eq_true hn)
      refine ⟨_, rfl, a, C, dx, _, _, rfl, h1, W.cl, W.nW, wk_words _ _ _, _, rfl, b, C, dy, _, _, rfl, g1, W.cl, W.nW, wk_words _ _ _, _, _, .tup (SqT.of h2) (dpAll_strs ws), .tup (SqT.of g2) (dpAll_strs ws'), shaped_strs ws l1, shaped_strs ws' l2, ?_⟩
      have e : decide (nm = nm' ∧ ws = ws') = decide (ws = ws') := by simp [hn]
      rw [e] at k
      rw [eqv_strs]
      exact k
    · have hn : ¬ nm = nm' := fun z => hn (decide_eq_true (congrArg V.str z))
      have e : decide (nm = nm' ∧ ws = ws') = false := by simp [hn]
      rw [e] at k
      exact k
end
end Lm

namespace Lm
open PySem L2
def nts (l : List Nat) : List V := l.map fun n : Nat => V.int n
theorem nts_len (l : List Nat) : (nts l).length = l.length := List.length_map ..
theorem nts_at {l : List Nat} {i n : Nat} (h : l[i]? = some n) : (nts l)[i]? = some (V.int n) := by
  unfold nts
  rw [List.getElem?_map, h]
  rfl
theorem nts_flat (l : List Nat) : (nts l).all flatV = true := by
  unfold nts
  rw [List.all_eq_true]
  intro x hx
  obtain ⟨n, _, rfl⟩ := List.mem_map.mp hx
  rfl
theorem nts_in (l : List Nat) (n : Nat) : inV (.int n) (nts l) = decide (n ∈ l) := by
  unfold inV nts
  induction l with
  | nil => rfl
  | cons a r ih =>
    rw [List.map_cons, List.any_cons, ih]
    show ((a : Int) == (n : Int) || decide (n ∈ r)) = decide (n ∈ a :: r)
    by_cases h : a = n
    · subst h; simp
    · have h2 : ¬ (a : Int) = (n : Int) := fun z => h (by omega)
      have h3 : ¬ n = a := fun z => h z.symm
      simp [h2, h3]
theorem strs_flat (l : List Str) : (l.map V.str).all flatV = true := by
  rw [List.all_eq_true]
  intro x hx
  obtain ⟨n, _, rfl⟩ := List.mem_map.mp hx
  rfl
theorem strs_in (l : List Str) (x : Str) : inV (.str x) (l.map V.str) = decide (x ∈ l) := by
  unfold inV
  induction l with
  | nil => rfl
  | cons a r ih =>
    rw [List.map_cons, List.any_cons, ih]
    show ((a == x) || decide (x ∈ r)) = decide (x ∈ a :: r)
    by_cases h : a = x
    · subst h; simp
    · have h3 : ¬ x = a := fun z => h z.symm
      simp [h, h3]
section
variable {P : Program} {w : World} {K : PySem.W.Frag} {mg : Str → Option Value} {base : Heap} {f : Addr} {fd : FuncData}
def spCuts (C : Addr) : Sp := fun vs H Q _ => ∃ (wk a : Addr) (nm : Str) (ws : List Str) (S : Nat → Bool), vs = [.ref wk, .ref a] ∧ WkAt C H wk nm ws ∧ ws.Nodup ∧ ws.length ≤ 60 ∧ SeqAt H a ((pick ws S).map V.str) ∧
  ∀ p H', H p = none → Same H H' → H' p = some (.lst (nts (cutsL ws.length S))) → Q (.ref p) H'
abbrev s_cuts_behind : Stmt := top 14
theorem sc_cuts_behind : FnScope ["work", "passages", "cuts", "index", "word", "cut"] ["work", "passages"] (defScope s_cuts_behind) := ⟨rfl, rfl, rfl, by decide +kernel, rfl, by decide +kernel, by decide +kernel⟩
theorem ok_cuts {C fR fE : Addr} {fdR fdE : FuncData} (F : Fun K "cuts_behind" "cuts_behind" s_cuts_behind f fd) (T : Blt mg) (D_is_row : DefOk P w K mg base 1 "is_row" fR fdR ["x"] spIsRow) (M_Work_end_of : MetOk P w K mg base 2 C "end_of" fE fdE ["self", "word"] (spWkEnd C)) :
    FnOk P w K mg base CX0 3 f fd ["work", "passages"] (spCuts C) := by
  refine F.ok sc_cuts_behind (fun vs H Q E h => ?_) (fun cdv A outer s H vs Q E hr h => ?_)
  · obtain ⟨wk, a, nm, ws, S, rfl, _⟩ := h
    rfl
  · obtain ⟨wk, a, nm, ws, S, rfl, kw, nd, l1, hq, k⟩ := h
    refine ⟨_, (pss_cons (ps_if (pt_not (pt_val (pe_d D_is_row (hr.mono (by decide)) (pa_cons (pv 1) pa_nil)))) (pss_one ps_never) pss_nil)
        (pss_cons (ps_set (i := 2) sc_cuts_behind.nd rfl (by first | exact Or.inl rfl | exact Or.inr rfl) (pe_lst (pa_cons pe_int pa_nil)))
        (pss_cons (ps_for PassesOwn.never rfl (pi_enumA rfl T.b_enumerate (pa_cons (pv 1) pa_nil)) (pg_tup rfl (pgs_cons (pg_name (i := 3) sc_cuts_behind.nd rfl (by first | exact Or.inl rfl | exact Or.inr rfl)) (pgs_cons (pg_name (i := 4) sc_cuts_behind.nd rfl (by first | exact Or.inl rfl | exact Or.inr rfl)) pgs_nil))) (pss_cons (ps_set (i := 5) sc_cuts_behind.nd rfl (by first | exact Or.inl rfl | exact Or.inr rfl) (pe_m M_Work_end_of (hr.mono (by decide)) (pv 0) (pa_cons (pv 4) pa_nil)))
        (pss_cons (ps_if (pt_cmpR op_le (pv 5) (pe_ix ix_list (pv 2) (pe_un un_neg pe_int) (fun _ _ => rfl)) (nomark _)) (pss_one ps_never) pss_nil)
        (pss_one (ps_expr (pe_bm PySem.F.plainAttrs_list PySem.F.slot_list_append PySem.F.type_list_append mt_append (pv 2) (pa_cons (pv 5) pa_nil)))))))
        (pss_one (ps_ret (pv 2)))))), ?_⟩
    refine ⟨_, rfl, a, _, rfl, hq, fun H1 e1 => ⟨_, rfl, ?_⟩⟩
    have hq1 : SeqAt H1 a ((pick ws S).map V.str) := hq.elim (fun h => .inl (e1 _ _ h)) fun h => .inr (e1 _ _ h)
    refine ⟨by show 1 ≤ sizeLine; decide, fun p np => ?_⟩
    have npH : H p = none := e1.free np
    have hq2 : SeqAt (upd H1 p (.lst [.int 0])) a ((pick ws S).map V.str) := hq1.elim (fun h => .inl (Same.upd' np _ _ h)) fun h => .inr (Same.upd' np _ _ h)
    have e2 : Same H (upd H1 p (.lst [.int 0])) := e1.trans (Same.upd' np)
    have hl : ((pick ws S).map V.str).length = (idx ws.length S).length := by rw [List.length_map]; unfold pick; rw [List.length_map]
    refine ⟨_, rfl, for_enumA hq2 (fun i σ' H' => ∃ u v x : Option V, σ' = [some (.ref wk), some (.ref a), some (.ref p), u, v, x] ∧ H' p = some (.lst (nts (0 :: ((idx ws.length S).take i).map (· + 1)))) ∧ Same H H')
      ⟨none, none, none, rfl, upd_same, e2⟩ ?_ ?_ ?_⟩
    · rintro i σ' H' _ ⟨u, v, x, rfl, gp, e⟩ o ho
      rcases hq with hq | hq
      · rw [e2 _ _ hq] at ho
        rw [← ho]; exact e _ _ hq
      · rw [e2 _ _ hq] at ho
        rw [← ho]; exact e _ _ hq
    · rintro i y σ' H' H'' hi ⟨u, v, x, rfl, gp, e⟩ ⟨T', x1, x2, rfl, nT, rfl, hx1, hx2⟩
      cases (Option.some.inj hx1)
      have hx2 : ((pick ws S).map V.str)[i]? = some x2 := hx2
      rw [hl] at hi
      obtain ⟨j, hj⟩ : ∃ j, (idx ws.length S)[i]? = some j := ⟨_, List.getElem?_eq_getElem hi⟩
      have hjm := idx_mem.mp (List.mem_of_getElem? hj)
      unfold pick at hx2
      rw [List.map_map, List.getElem?_map, hj] at hx2
      cases (Option.some.inj hx2)
      have hw : ws[j]? = some (ws.getD j no) := by
        rw [List.getD_eq_getElem?_getD, List.getElem?_eq_getElem hjm.1]
        rfl
      have hTp : T' ≠ p := (ne_of_none gp nT).symm
      have e3 : Same H (upd H' T' (.tup [.int (i : Nat), .str (ws.getD j no)])) := e.trans (Same.upd' nT)
      have kw3 := kw.same e3
      obtain ⟨dx, t, d, o1, o2, o3⟩ := kw3.ob
      refine ⟨T', _, rfl, SqT.of upd_same, rfl, _, _, rfl, _, _, rfl, rfl, ?_⟩
      refine ⟨_, rfl, wk, dx, _, rfl, o1, wk_no _ _ _ (by decide +kernel) (by decide +kernel) (by decide +kernel), _, rfl, wk, _, nm, ws, j, rfl, kw3, nd, hw, ?_⟩
      have gp2 : (upd H' T' (.tup [.int (i : Nat), .str (ws.getD j no)])) p = some (.lst (nts (0 :: ((idx ws.length S).take i).map (· + 1)))) := by rw [upd_ne hTp.symm]; exact gp
      -- the last cut is less
      obtain ⟨pre, z, hz, hlt⟩ : ∃ (pre : List V) (z : Nat), nts (0 :: ((idx ws.length S).take i).map (· + 1)) = pre ++ [.int z] ∧ z < j + 1 := by
        cases i with
        | zero => exact ⟨[], 0, rfl, by omega⟩
        | succ i =>
          obtain ⟨j', hj'⟩ : ∃ j', (idx ws.length S)[i]? = some j' := ⟨_, List.getElem?_eq_getElem (by omega)⟩
          have hlt : j' < j := by
            obtain ⟨a1, b1⟩ := List.getElem?_eq_some_iff.mp hj'
            obtain ⟨a2, b2⟩ := List.getElem?_eq_some_iff.mp hj
            have := List.pairwise_iff_getElem.mp (idx_sorted ws.length S) i (i + 1) a1 a2 (by omega)
            rw [b1, b2] at this
            exact this
          refine ⟨nts (0 :: ((idx ws.length S).take i).map (· + 1)), j' + 1, ?_, by omega⟩
          rw [List.take_succ, hj']
          simp [nts]
      have hnl : decide ((((j : Int) + 1)) ≤ (z : Int)) = false := decide_eq_false (by omega)
      refine ⟨_, rfl, _, rfl, _, rfl, _, _, _, _, rfl, rfl, SqL.of gp2, by rw [hz]; exact atI_last _ _, _, _, rfl, rfl, _, rfl, ?_⟩
      rw [hnl]
      refine ⟨_, rfl, .inl ⟨rfl, _, SqL.of gp2⟩, _, rfl, _, _, _, rfl, rfl, gp2, small1000 (by rw [nts_len]; simp; have := idx_len ws.length S; omega), ?_⟩
      refine ⟨_, _, _, rfl, ?_, Same.mut e3 npH⟩
      rw [upd_same, List.take_succ, hj]
      simp [nts]
    · rintro σ' H' ⟨u, v, x, rfl, gp, e⟩
      rw [hl, List.take_length] at gp
      exact ⟨_, rfl, k p H' npH e gp⟩
def spCounts : Sp := fun vs H Q _ => ∃ (c : Addr) (N : Nat) (S : Nat → Bool), vs = [.ref c, .int N] ∧ H c = some (.lst (nts (cutsL N S))) ∧ N ≤ 60 ∧ ∀ p H', H p = none → Same H H' → H' p = some (.lst (nts (countsL N S))) → Q (.ref p) H'
abbrev s_counts_at : Stmt := top 15
theorem sc_counts_at : FnScope ["cuts", "length", "counts", "cut"] ["cuts", "length"] (defScope s_counts_at) := ⟨rfl, rfl, rfl, by decide +kernel, rfl, by decide +kernel, by decide +kernel⟩
theorem ok_counts (F : Fun K "counts_at" "counts_at" s_counts_at f fd) (T : Blt mg) : FnOk P w K mg base CX0 1 f fd ["cuts", "length"] spCounts := by
  refine F.ok sc_counts_at (fun vs H Q E h => ?_) (fun cdv A outer s H vs Q E hr h => ?_)
  · obtain ⟨c, N, S, rfl, _⟩ := h
    rfl
  · obtain ⟨c, N, S, rfl, hc, hN, k⟩ := h
    refine ⟨_, (pss_cons (ps_set (i := 2) sc_counts_at.nd rfl (by first | exact Or.inl rfl | exact Or.inr rfl) (pe_lst (pa_cons pe_int pa_nil)))
        (pss_cons (ps_for PassesOwn.never rfl (pi_range2 rfl T.b_range (pa_cons pe_int (pa_cons (pe_op op_add (pv 1) pe_int) pa_nil))) (pg_name (i := 3) sc_counts_at.nd rfl (by first | exact Or.inl rfl | exact Or.inr rfl)) (pss_one (ps_expr (pe_bm PySem.F.plainAttrs_list PySem.F.slot_list_append PySem.F.type_list_append mt_append (pv 2) (pa_cons (pe_op op_add (pe_ix ix_list (pv 2) (pe_un un_neg pe_int) (fun _ _ => rfl)) (pe_callTy call_int1 (by rfl) T.b_int (by decide +kernel) (pa_cons (pe_cmpR op_in_seq (pv 3) (pv 0) (by rfl)) pa_nil))) pa_nil)))))
        (pss_one (ps_ret (pv 2))))), ?_⟩
    refine ⟨by show 1 ≤ sizeLine; decide, fun p np => ?_⟩
    have hpc : p ≠ c := (ne_of_none hc np).symm
    refine ⟨_, rfl, _, _, rfl, rfl, _, _, rfl, ⟨by decide, by decide, by omega, by omega⟩, for_range (lo := 1) (n := ((N : Int) + 1 - 1).toNat) (fun i σ' H' => ∃ u : Option V, σ' = [some (.ref c), some (.int N), some (.ref p), u] ∧ H' p = some (.lst (nts ((List.range (i + 1)).map (cnt S)))) ∧ Same H H')
      ⟨none, rfl, upd_same, Same.upd' np⟩ ?_ ?_⟩
    · rintro i σ' H' hi ⟨u, rfl, gp, e⟩
      have hi : i < N := by omega
      have hpre : nts ((List.range (i + 1)).map (cnt S)) = nts ((List.range i).map (cnt S)) ++ [.int (cnt S i : Nat)] := by
        rw [List.range_succ]
        simp [nts]
      have e1 : (1 : Int) + (i : Int) = ((i + 1 : Nat) : Int) := by omega
      refine ⟨_, rfl, .inl ⟨rfl, _, SqL.of gp⟩, ?_⟩
      refine ⟨_, rfl, _, rfl, _, _, _, _, rfl, rfl, SqL.of gp, by rw [hpre]; exact atI_last _ _, _, rfl, _, rfl, c, _, rfl, .inl (SqL.of (e _ _ hc)), rfl, nts_flat _, .inr ⟨_, rfl, _, _, rfl, rfl, ?_⟩⟩
      refine ⟨_, _, _, rfl, rfl, gp, small1000 (by rw [nts_len]; simp; omega), ?_⟩
      refine ⟨_, rfl, ?_, Same.mut e np⟩
      have e2 : inV (.int ((1 : Int) + (i : Int))) (nts (cutsL N S)) = S i := by
        rw [e1, nts_in]
        by_cases h : S i = true
        · rw [h]; exact decide_eq_true (cuts_mem.mpr ⟨hi, h⟩)
        · rw [decide_eq_false (fun z => h (cuts_mem.mp z).2)]
          simpa using h
      rw [upd_same]
      show some (HO.lst (nts ((List.range (i + 1)).map (cnt S)) ++ [V.int ((cnt S i : Nat) + if inV (.int ((1 : Int) + (i : Int))) (nts (cutsL N S)) = true then 1 else 0)])) = some (HO.lst (nts ((List.range (i + 1 + 1)).map (cnt S))))
      rw [e2, List.range_succ (n := i + 1), List.map_append, List.map_singleton, cnt_succ]
      by_cases h : S i = true <;> simp [nts, h]
    · rintro σ' H' ⟨u, rfl, gp, e⟩
      have hN2 : ((N : Int) + 1 - 1).toNat = N := by omega
      rw [hN2] at gp
      exact ⟨_, rfl, k p H' np e gp⟩
/-! ### an edition as it stands in the heap -/
def edF (wk t u v : Addr) : List (Str × V) := [("work", .ref wk), ("words", .ref t), ("cuts", .ref u), ("counts", .ref v)]
theorem e_1 : (("words" : Str) == "work") = false := by decide +kernel
theorem e_2 : (("cuts" : Str) == "work") = false := by decide +kernel
theorem e_3 : (("cuts" : Str) == "words") = false := by decide +kernel
theorem e_4 : (("counts" : Str) == "work") = false := by decide +kernel
theorem e_5 : (("counts" : Str) == "words") = false := by decide +kernel
theorem e_6 : (("counts" : Str) == "cuts") = false := by decide +kernel
theorem ed_work (wk t u v : Addr) : (edF wk t u v).lookup ("work" : Str) = some (.ref wk) := by simp [edF, List.lookup]
theorem ed_words (wk t u v : Addr) : (edF wk t u v).lookup ("words" : Str) = some (.ref t) := by simp [edF, List.lookup, e_1]
theorem ed_cuts (wk t u v : Addr) : (edF wk t u v).lookup ("cuts" : Str) = some (.ref u) := by simp [edF, List.lookup, e_2, e_3]
theorem ed_counts (wk t u v : Addr) : (edF wk t u v).lookup ("counts" : Str) = some (.ref v) := by simp [edF, List.lookup, e_4, e_5, e_6]
theorem ed_no (wk t u v : Addr) {m : Str} (h1 : (m == "work") = false) (h2 : (m == "words") = false) (h3 : (m == "cuts") = false) (h4 : (m == "counts") = false) : (edF wk t u v).lookup m = none := by simp [edF, List.lookup, h1, h2, h3, h4]
def p1 (wk : Addr) : List (Str × V) := [("work", .ref wk)]
def p2 (wk t : Addr) : List (Str × V) := [("work", .ref wk), ("words", .ref t)]
def p3 (wk t u : Addr) : List (Str × V) := [("work", .ref wk), ("words", .ref t), ("cuts", .ref u)]
theorem ne_b {a b : Str} (h : (a == b) = false) : ¬ (b = a) := fun z => by rw [z] at h; simp at h
theorem put1 (wk : Addr) : putF "work" (.ref wk) [] = p1 wk := rfl
theorem put2 (wk t : Addr) : putF "words" (.ref t) (p1 wk) = p2 wk t := by simp [putF, p1, p2, ne_b e_1]
theorem put3 (wk t u : Addr) : putF "cuts" (.ref u) (p2 wk t) = p3 wk t u := by simp [putF, p2, p3, ne_b e_2, ne_b e_3]
theorem put4 (wk t u v : Addr) : putF "counts" (.ref v) (p3 wk t u) = edF wk t u v := by simp [putF, p3, edF, ne_b e_4, ne_b e_5, ne_b e_6]
/-- the edition of the passages S of the work at wk, at e -/
structure EdAt (CW CE : Addr) (H : Hp) (e wk : Addr) (nm : Str) (ws : List Str) (S : Nat → Bool) : Prop where
  ob : ∃ dx t u v, H e = some (.ins CE dx (edF wk t u v)) ∧ H t = some (.tup ((pick ws S).map V.str)) ∧ H u = some (.tup (nts (cutsL ws.length S))) ∧ H v = some (.tup (nts (countsL ws.length S)))
  wk : WkAt CW H wk nm ws
theorem EdAt.same {CW CE : Addr} {H H' : Hp} {a wk : Addr} {nm : Str} {ws : List Str} {S : Nat → Bool} (k : EdAt CW CE H a wk nm ws S) (e : Same H H') : EdAt CW CE H' a wk nm ws S := by
  obtain ⟨⟨dx, t, u, v, h1, h2, h3, h4⟩, h5⟩ := k
  exact ⟨⟨dx, t, u, v, e _ _ h1, e _ _ h2, e _ _ h3, e _ _ h4⟩, h5.same e⟩
theorem EdAt.kp {CW CE st : Addr} {H H' : Hp} {a wk : Addr} {nm : Str} {ws : List Str} {S : Nat → Bool} {xs : List V} (k : EdAt CW CE H a wk nm ws S) (e : Kp st H H') (hs : H st = some (.lst xs)) : EdAt CW CE H' a wk nm ws S := by
  obtain ⟨⟨dx, t, u, v, h1, h2, h3, h4⟩, h5⟩ := k
  exact ⟨⟨dx, t, u, v, e _ _ (ne_of h1 hs (by intro z; cases z)) h1, e _ _ (ne_of h2 hs (by intro z; cases z)) h2, e _ _ (ne_of h3 hs (by intro z; cases z)) h3, e _ _ (ne_of h4 hs (by intro z; cases z)) h4⟩, h5.kp e hs⟩
structure EdTxt (K : PySem.W.Frag) (C : Addr) : Prop where
  cl : Cls K C
  nK : NoAttr K C "work"
  nW : NoAttr K C "words"
  nC : NoAttr K C "cuts"
  nN : NoAttr K C "counts"
/-- a work is right: its words -/
structure WOk (ws : List Str) : Prop where
  ok : Wds ws ws.length
  l0 : 0 < ws.length
  l1 : ws.length ≤ 60
def spEdInit (CW CE : Addr) : Sp := fun vs H Q _ => ∃ (p dx wk a : Addr) (nm : Str) (ws : List Str) (S : Nat → Bool), vs = [.ref p, .ref wk, .ref a] ∧ H p = some (.ins CE dx []) ∧ WkAt CW H wk nm ws ∧ WOk ws ∧ SeqAt H a ((pick ws S).map V.str) ∧ wk ≠ p ∧
  ∀ H', EdAt CW CE H' p wk nm ws S → Kp p H H' → Q .non H'
abbrev s_Edition_init : Stmt := inClass (top 13) 0
theorem sc_Edition_init : FnScope ["self", "work", "passages", "cuts"] ["self", "work", "passages"] (defScope s_Edition_init) := ⟨rfl, rfl, rfl, by decide +kernel, rfl, by decide +kernel, by decide +kernel⟩
theorem WkAt.kpi {C C' p dx : Addr} {H H' : Hp} {a : Addr} {nm : Str} {ws : List Str} {fs : List (Str × V)} (k : WkAt C H a nm ws) (e : Kp p H H') (hs : H p = some (.ins C' dx fs)) (ha : a ≠ p) : WkAt C H' a nm ws := by
  obtain ⟨⟨dx, t, d, h1, h2, h3⟩⟩ := k
  exact ⟨⟨dx, t, d, e _ _ ha h1, e _ _ (ne_of h2 hs (by intro z; cases z)) h2, e _ _ (ne_of h3 hs (by intro z; cases z)) h3⟩⟩
theorem ok_ed_init {CW CE fC fN fL : Addr} {fdC fdN fdL : FuncData} (F : Fun K "__init__" "Edition.__init__" s_Edition_init f fd) (T : Blt mg) (W : EdTxt K CE)
    (D_cuts_behind : DefOk P w K mg base 3 "cuts_behind" fC fdC ["work", "passages"] (spCuts CW)) (D_counts_at : DefOk P w K mg base 1 "counts_at" fN fdN ["cuts", "length"] spCounts)
    (M_Work_len : MetOk P w K mg base 1 CW "__len__" fL fdL ["self"] (spWkLen CW)) : FnOk P w K mg base CX0 4 f fd ["self", "work", "passages"] (spEdInit CW CE) := by
  refine F.ok sc_Edition_init (fun vs H Q E h => ?_) (fun cdv A outer s H vs Q E hr h => ?_)
  · obtain ⟨p, dx, wk, a, nm, ws, S, rfl, _⟩ := h
    rfl
  · obtain ⟨p, dx, wk, a, nm, ws, S, rfl, hp, kw, hw, hq, hwp, k⟩ := h
    refine ⟨_, (pss_cons (ps_set (i := 3) sc_Edition_init.nd rfl (by first | exact Or.inl rfl | exact Or.inr rfl) (pe_d D_cuts_behind (hr.mono (by decide)) (pa_cons (pv 1) (pa_cons (pv 2) pa_nil))))
        (pss_cons (ps_fld (pv 0) (pv 1) rfl)
        (pss_cons (ps_fld (pv 0) (pe_callTy call_tuple_of (by rfl) T.b_tuple (by decide +kernel) (pa_cons (pv 2) pa_nil)) rfl)
        (pss_cons (ps_fld (pv 0) (pe_callTy call_tuple_of (by rfl) T.b_tuple (by decide +kernel) (pa_cons (pv 3) pa_nil)) rfl)
        (pss_one (ps_fld (pv 0) (pe_callTy call_tuple_of (by rfl) T.b_tuple (by decide +kernel) (pa_cons (pe_d D_counts_at (hr.mono (by decide)) (pa_cons (pv 3) (pa_cons (pe_callB (M_Work_len.len (hr.mono (by decide))) (by rfl) T.b_len PySem.boot_len (pa_cons (pv 1) pa_nil)) pa_nil))) pa_nil)) rfl)))))), ?_⟩
    have hap : a ≠ p := by
      rcases hq with hq | hq
      · exact ne_of hq hp (by intro z; cases z)
      · exact ne_of hq hp (by intro z; cases z)
    refine ⟨_, rfl, _, rfl, wk, a, nm, ws, S, rfl, kw, hw.ok.nd, hw.l1, hq, fun c H1 nc e1 hc => ?_⟩
    have hcp : c ≠ p := (ne_of_none hp nc).symm
    have hp1 := e1 _ _ hp
    refine ⟨_, rfl, _, rfl, p, CE, dx, _, rfl, hp1, W.cl, W.nK, by decide, ?_⟩
    rw [put1]
    generalize hH2 : upd H1 p (.ins CE dx (p1 wk)) = H2
    have kp2 : Kp p H H2 := by rw [← hH2]; exact (Kp.of e1).trans (Kp.upd _ _ _)
    have hp2 : H2 p = some (.ins CE dx (p1 wk)) := by rw [← hH2]; exact upd_same
    have hc2 : H2 c = some (.lst (nts (cutsL ws.length S))) := by rw [← hH2, upd_ne hcp]; exact hc
    clear hH2
    -- behind the words, at t
    have fin : ∀ (t : Addr) (H3 : Hp), H3 p = some (.ins CE dx (p1 wk)) → H3 t = some (.tup ((pick ws S).map V.str)) → H3 c = some (.lst (nts (cutsL ws.length S))) → Kp p H H3 → t ≠ p →
        tSeq (sFld K (tVar 0) (tCB (fun xs H Q => ∃ p ys, xs = [.ref p] ∧ ((SqL K H p ys ∧ ∀ l, H l = none → Q (.ref l) (upd H l (.tup ys))) ∨ (SqT K H p ys ∧ Q (.ref p) H))) (tCons (tVar 3) tNil)) "cuts")
          (sFld K (tVar 0) (tCB (fun xs H Q => ∃ p ys, xs = [.ref p] ∧ ((SqL K H p ys ∧ ∀ l, H l = none → Q (.ref l) (upd H l (.tup ys))) ∨ (SqT K H p ys ∧ Q (.ref p) H))) (tCons (tCall spCounts [] E0 (tCons (tVar 3) (tCons (tCB (rLenOwn CW (spWkLen CW) E0) (tCons (tVar 1) tNil)) tNil))) tNil)) "counts")
          { nx := fun _ H' => Q .non H', rt := Q } [some (.ref p), some (.ref wk), some (.ref a), some (.ref c)] (upd H3 p (.ins CE dx (p2 wk t))) := by
      intro t H3 g1 g2 g3 g4 htp
      have g5 : (upd H3 p (.ins CE dx (p2 wk t))) c = some (.lst (nts (cutsL ws.length S))) := by rw [upd_ne hcp]; exact g3
      refine ⟨_, rfl, c, _, rfl, .inl ⟨SqL.of g5, fun u nu => ?_⟩⟩
      have hup : u ≠ p := (ne_of_none upd_same nu).symm
      have huc : u ≠ c := (ne_of_none g5 nu).symm
      have hut : u ≠ t := (ne_of_none (by rw [upd_ne htp]; exact g2) nu).symm
      refine ⟨_, rfl, p, CE, dx, _, rfl, (by rw [upd_ne hup.symm, upd_same]), W.cl, W.nC, (by show 2 < 1000; decide), ?_⟩
      rw [put3]
      generalize hH4 : upd (upd (upd H3 p _) u _) p _ = H4
      have kp4 : Kp p H H4 := by rw [← hH4]; exact ((g4.trans (Kp.upd _ _ _)).trans (Kp.of (Same.upd' nu))).trans (Kp.upd _ _ _)
      have q1 : H4 p = some (.ins CE dx (p3 wk t u)) := by rw [← hH4]; exact upd_same
      have q2 : H4 t = some (.tup ((pick ws S).map V.str)) := by rw [← hH4, upd_ne htp, upd_ne hut.symm, upd_ne htp]; exact g2
      have q3 : H4 u = some (.tup (nts (cutsL ws.length S))) := by rw [← hH4, upd_ne hup, upd_same]
      have q4 : H4 c = some (.lst (nts (cutsL ws.length S))) := by rw [← hH4, upd_ne hcp, upd_ne huc.symm, upd_ne hcp]; exact g3
      clear hH4
      have kw4 : WkAt CW H4 wk nm ws := kw.kpi kp4 hp hwp
      obtain ⟨dxw, tw, dw, o1, o2, o3⟩ := kw4.ob
      refine ⟨_, rfl, _, rfl, wk, dxw, _, rfl, o1, wk, nm, ws, rfl, kw4, ws.length, rfl, by have := hw.l1; omega, c, ws.length, S, rfl, q4, hw.l1, fun cs H5 ncs e5 hcs => ?_⟩
      refine ⟨cs, _, rfl, .inl ⟨SqL.of hcs, fun v nv => ?_⟩⟩
      have r1 := e5 _ _ q1
      have hvp : v ≠ p := (ne_of_none r1 nv).symm
      have hvt : v ≠ t := (ne_of_none (e5 _ _ q2) nv).symm
      have hvu : v ≠ u := (ne_of_none (e5 _ _ q3) nv).symm
      refine ⟨_, rfl, p, CE, dx, _, rfl, (by rw [upd_ne hvp.symm]; exact r1), W.cl, W.nN, (by show 3 < 1000; decide), ?_⟩
      rw [put4]
      have kp6 : Kp p H (upd (upd H5 v (.tup (nts (countsL ws.length S)))) p (.ins CE dx (edF wk t u v))) := ((kp4.trans (Kp.of e5)).trans (Kp.of (Same.upd' nv))).trans (Kp.upd _ _ _)
      refine k _ ⟨⟨dx, t, u, v, upd_same, ?_, ?_, ?_⟩, kw.kpi kp6 hp hwp⟩ kp6
      · rw [upd_ne htp, upd_ne hvt.symm]; exact e5 _ _ q2
      · rw [upd_ne hup, upd_ne hvu.symm]; exact e5 _ _ q3
      · rw [upd_ne hvp, upd_same]
    rcases hq with hq | hq
    · refine ⟨_, rfl, a, _, rfl, .inl ⟨SqL.of (kp2 _ _ hap hq), fun t nt => ?_⟩⟩
      have htp : t ≠ p := (ne_of_none hp2 nt).symm
      have htc : t ≠ c := (ne_of_none hc2 nt).symm
      refine ⟨_, rfl, p, CE, dx, _, rfl, (by rw [upd_ne htp.symm]; exact hp2), W.cl, W.nW, (by show 1 < 1000; decide), ?_⟩
      rw [put2]
      exact fin t _ (by rw [upd_ne htp.symm]; exact hp2) upd_same (by rw [upd_ne htc.symm]; exact hc2) (kp2.trans (Kp.of (Same.upd' nt))) htp
    · refine ⟨_, rfl, a, _, rfl, .inr ⟨SqT.of (kp2 _ _ hap hq), ?_⟩⟩
      refine ⟨_, rfl, p, CE, dx, _, rfl, hp2, W.cl, W.nW, (by show 1 < 1000; decide), ?_⟩
      rw [put2]
      exact fin a _ hp2 (kp2 _ _ hap hq) hc2 kp2 hap
end
end Lm

namespace Lm
open PySem L2
theorem nth_at {ws : List Str} {j : Nat} (h : j < ws.length) : ws[j]? = some (ws.getD j no) := by
  rw [List.getD_eq_getElem?_getD, List.getElem?_eq_getElem h]
  rfl
theorem pick_in {ws : List Str} {T : Nat → Bool} {j : Nat} (nd : ws.Nodup) (h : j < ws.length) : decide (ws.getD j no ∈ pick ws T) = T j := by
  by_cases hT : T j = true
  · rw [hT]
    exact decide_eq_true (List.mem_map.mpr ⟨j, idx_mem.mpr ⟨h, hT⟩, rfl⟩)
  · have : T j = false := by simpa using hT
    rw [this]
    refine decide_eq_false fun z => hT ?_
    obtain ⟨i, hi, e⟩ := List.mem_map.mp z
    have hi := idx_mem.mp hi
    have e1 := nth_at hi.1
    rw [show ws.getD i no = ws.getD j no from e] at e1
    have := nd_ix nd e1 (nth_at h)
    subst this
    exact hi.2
theorem pick_len (ws : List Str) (S : Nat → Bool) : (pick ws S).length = cnt S ws.length := by unfold pick cnt; rw [List.length_map]
theorem pick_congr {ws : List Str} {S T : Nat → Bool} (h : ∀ i < ws.length, S i = T i) : pick ws S = pick ws T := by
  unfold pick idx
  rw [List.filter_congr fun i hi => h i (List.mem_range.mp hi)]
theorem pick_at {ws : List Str} {S : Nat → Bool} {i j : Nat} (h : (idx ws.length S)[i]? = some j) : ((pick ws S).map V.str)[i]? = some (.str (ws.getD j no)) := by
  unfold pick
  rw [List.map_map, List.getElem?_map, h]
  rfl
theorem filter_and (N : Nat) (S T : Nat → Bool) : (idx N S).filter T = idx N fun i => S i && T i := by
  unfold idx
  rw [List.filter_filter]
  exact List.filter_congr fun i _ => Bool.and_comm _ _
section
variable {CW CE : Addr}
theorem mkEd {H : Hp} {wk a : Addr} {nm : Str} {ws : List Str} {S : Nat → Bool} {R : Addr → Hp → Prop} {E : XK} (kw : WkAt CW H wk nm ws) (hw : WOk ws) (hq : SeqAt H a ((pick ws S).map V.str)) (k : ∀ x H', H x = none → Same H H' → EdAt CW CE H' x wk nm ws S → R x H') :
    ∀ x dx, H x = none → H dx = none → dx ≠ x → spEdInit CW CE (.ref x :: ([.ref wk, .ref a] ++ [])) (upd (upd H dx (.own x)) x (.ins CE dx [])) (fun v H2 => v = .non ∧ R x H2) E := by
  intro x dx nx ndx nex
  have s0 : Same H (upd (upd H dx (.own x)) x (.ins CE dx [])) := fun b o e => by
    rw [upd_ne (ne_of_none e nx), upd_ne (ne_of_none e ndx)]
    exact e
  obtain ⟨dw, tw, ew, o1, _, _⟩ := id kw.ob
  refine ⟨x, dx, wk, a, nm, ws, S, rfl, upd_same, kw.same s0, hw, hq.elim (fun h => .inl (s0 _ _ h)) fun h => .inr (s0 _ _ h), ne_of_none o1 nx, fun H' he hk => ⟨rfl, k x H' nx (fun b o e => hk b o (ne_of_none e nx) (s0 b o e)) he⟩⟩
theorem mkWk {H : Hp} {a : Addr} {nm : Str} {ws : List Str} {R : Addr → Hp → Prop} {E : XK} (hn : isW nm = true) (hw : WOk ws) (hq : SeqAt H a (ws.map V.str)) (k : ∀ x H', H x = none → Same H H' → WkAt CW H' x nm ws → R x H') :
    ∀ x dx, H x = none → H dx = none → dx ≠ x → spWkInit CW (.ref x :: ([.str nm, .ref a] ++ [])) (upd (upd H dx (.own x)) x (.ins CW dx [])) (fun v H2 => v = .non ∧ R x H2) E := by
  intro x dx nx ndx nex
  have s0 : Same H (upd (upd H dx (.own x)) x (.ins CW dx [])) := fun b o e => by
    rw [upd_ne (ne_of_none e nx), upd_ne (ne_of_none e ndx)]
    exact e
  refine ⟨x, dx, a, nm, ws, rfl, upd_same, hq.elim (fun h => .inl (s0 _ _ h)) fun h => .inr (s0 _ _ h), hn, hw.ok, hw.l0, hw.l1, fun H' he hk => ⟨rfl, k x H' nx (fun b o e => hk b o (ne_of_none e nx) (s0 b o e)) he⟩⟩
end
section
variable {P : Program} {w : World} {K : PySem.W.Frag} {mg : Str → Option Value} {base : Heap} {f : Addr} {fd : FuncData}
theorem pick_all (ws : List Str) : pick ws (fun _ => true) = ws := by
  unfold pick idx
  rw [List.filter_eq_self.mpr fun _ _ => rfl]
  refine List.ext_getElem? fun i => ?_
  rw [List.getElem?_map]
  rcases Nat.lt_or_ge i ws.length with h | h
  · rw [List.getElem?_range h, nth_at h]
    rfl
  · rw [List.getElem?_eq_none (by simpa using h), List.getElem?_eq_none h]
    rfl
def spWhole (CW CE : Addr) : Sp := fun vs H Q _ => ∃ (wk : Addr) (nm : Str) (ws : List Str), vs = [.ref wk] ∧ WkAt CW H wk nm ws ∧ WOk ws ∧ ∀ p H', H p = none → Same H H' → EdAt CW CE H' p wk nm ws (fun _ => true) → Q (.ref p) H'
def spEdLen (CW CE : Addr) : Sp := fun vs H Q _ => ∃ (a wk : Addr) (nm : Str) (ws : List Str) (S : Nat → Bool), vs = [.ref a] ∧ EdAt CW CE H a wk nm ws S ∧ Q (.int (cnt S ws.length : Nat)) H
abbrev s_Edition_len : Stmt := inClass (top 13) 6
theorem sc_Edition_len : FnScope ["self"] ["self"] (defScope s_Edition_len) := ⟨rfl, rfl, rfl, by decide +kernel, rfl, by decide +kernel, by decide +kernel⟩
theorem ok_ed_len {CW CE : Addr} (F : Fun K "__len__" "Edition.__len__" s_Edition_len f fd) (T : Blt mg) (W : EdTxt K CE) : FnOk P w K mg base CX0 1 f fd ["self"] (spEdLen CW CE) := by
  refine F.ok sc_Edition_len (fun vs H Q E h => ?_) (fun cdv A outer s H vs Q E hr h => ?_)
  · obtain ⟨a, wk, nm, ws, S, rfl, _⟩ := h
    rfl
  · obtain ⟨a, wk, nm, ws, S, rfl, ⟨⟨dx, t, u, v, h1, h2, h3, h4⟩, _⟩, k⟩ := h
    refine ⟨_, (pss_one (ps_ret (pe_callB call_len_seq (by rfl) T.b_len PySem.boot_len (pa_cons (pe_fld (pv 0) rfl) pa_nil)))), ?_⟩
    refine ⟨_, rfl, a, CE, dx, _, _, rfl, h1, W.cl, W.nW, ed_words _ _ _ _, t, _, rfl, .inr (SqT.of h2), ?_⟩
    rw [List.length_map, pick_len]
    exact k
def spEdIn (CW CE : Addr) : Sp := fun vs H Q _ => ∃ (a wk : Addr) (x nm : Str) (ws : List Str) (S : Nat → Bool), vs = [.ref a, .str x] ∧ EdAt CW CE H a wk nm ws S ∧ Q (.bl (decide (x ∈ pick ws S))) H
abbrev s_Edition_contains : Stmt := inClass (top 13) 7
theorem sc_Edition_contains : FnScope ["self", "x"] ["self", "x"] (defScope s_Edition_contains) := ⟨rfl, rfl, rfl, by decide +kernel, rfl, by decide +kernel, by decide +kernel⟩
theorem ok_ed_in {CW CE : Addr} (F : Fun K "__contains__" "Edition.__contains__" s_Edition_contains f fd) (T : Blt mg) (W : EdTxt K CE) : FnOk P w K mg base CX0 1 f fd ["self", "x"] (spEdIn CW CE) := by
  refine F.ok sc_Edition_contains (fun vs H Q E h => ?_) (fun cdv A outer s H vs Q E hr h => ?_)
  · obtain ⟨a, wk, x, nm, ws, S, rfl, _⟩ := h
    rfl
  · obtain ⟨a, wk, x, nm, ws, S, rfl, ⟨⟨dx, t, u, v, h1, h2, h3, h4⟩, _⟩, k⟩ := h
    refine ⟨_, (pss_one (ps_ret (pe_and (pe_callB call_isi (by rfl) T.b_isinstance (by decide +kernel) (pa_cons (pv 1) (pa_cons (pe_bltn (v := .ty "str") (u := .type "str") (by rfl) T.b_str (by decide +kernel) rfl) pa_nil))) (pe_one (pe_cmpR op_in_seq (pv 1) (pe_fld (pv 0) rfl) (by rfl)))))), ?_⟩
    refine ⟨_, rfl, _, _, _, _, true, rfl, .ty _, .base (.str x), kit_ty (by decide +kernel), true, rfl, ?_⟩
    refine ⟨_, rfl, _, rfl, a, CE, dx, _, _, rfl, h1, W.cl, W.nW, ed_words _ _ _ _, t, _, rfl, .inr (SqT.of h2), rfl, strs_flat _, ?_⟩
    have e := strs_in (pick ws S) x
    rw [← e] at k
    exact k
def spReqCount (CW CE : Addr) : Sp := fun vs H Q _ => ∃ (a wk : Addr) (n : Nat) (nm : Str) (ws : List Str) (S : Nat → Bool), vs = [.int n, .ref a] ∧ EdAt CW CE H a wk nm ws S ∧ ws.length ≤ 60 ∧ n ≤ cnt S ws.length ∧ Q .non H
theorem cnt_le (S : Nat → Bool) (N : Nat) : cnt S N ≤ N := idx_len N S
def spReqCut (CW : Addr) : Sp := fun vs H Q _ => ∃ (wk : Addr) (n : Nat) (nm : Str) (ws : List Str), vs = [.int n, .ref wk] ∧ WkAt CW H wk nm ws ∧ ws.length ≤ 60 ∧ n ≤ ws.length ∧ Q .non H
def spCutB (CW CE : Addr) : Sp := fun vs H Q _ => ∃ (a wk : Addr) (n x : Nat) (nm : Str) (ws : List Str) (S : Nat → Bool), vs = [.ref a, .int n] ∧ EdAt CW CE H a wk nm ws S ∧ ws.length ≤ 60 ∧ (cutsL ws.length S)[n]? = some x ∧ Q (.int x) H
def spCountAt (CW CE : Addr) : Sp := fun vs H Q _ => ∃ (a wk : Addr) (c : Nat) (nm : Str) (ws : List Str) (S : Nat → Bool), vs = [.ref a, .int c] ∧ EdAt CW CE H a wk nm ws S ∧ ws.length ≤ 60 ∧ c ≤ ws.length ∧ Q (.int (cnt S c : Nat)) H
def spKernel (CW CE : Addr) : Sp := fun vs H Q _ => ∃ (a wk : Addr) (c : Nat) (nm : Str) (ws : List Str) (S : Nat → Bool), vs = [.ref a, .int c] ∧ EdAt CW CE H a wk nm ws S ∧ ws.length ≤ 60 ∧ c ≤ ws.length ∧ Q (.int (ker S c : Nat)) H
end
end Lm

namespace Lm
open PySem L2
theorem EdAt.congr {CW CE : Addr} {H : Hp} {a wk : Addr} {nm : Str} {ws : List Str} {S T : Nat → Bool} (k : EdAt CW CE H a wk nm ws S) (h : ∀ i < ws.length, S i = T i) : EdAt CW CE H a wk nm ws T := by
  obtain ⟨⟨dx, t, u, v, h1, h2, h3, h4⟩, h5⟩ := k
  have e : ∀ c ≤ ws.length, idx c S = idx c T := fun c hc => List.filter_congr fun i hi => h i (by have := List.mem_range.mp hi; omega)
  have e1 : cutsL ws.length S = cutsL ws.length T := by unfold cutsL; rw [e _ (Nat.le_refl _)]
  have e2 : countsL ws.length S = countsL ws.length T := by
    unfold countsL
    refine List.map_congr_left fun c hc => ?_
    have := List.mem_range.mp hc
    unfold cnt
    rw [e c (by omega)]
  exact ⟨⟨dx, t, u, v, h1, by rw [← pick_congr h]; exact h2, by rw [← e1]; exact h3, by rw [← e2]; exact h4⟩, h5⟩
section
variable {P : Program} {w : World} {K : PySem.W.Frag} {mg : Str → Option Value} {base : Heap} {f : Addr} {fd : FuncData}
structure WkNe (K : PySem.W.Frag) (C : Addr) : Prop where
  ne_Work : PySem.W.findIn K (.ref C) "__ne__" = some (some (.builtin "object.__ne__"))
  ob_Work : PySem.W.subIn K (.ref C) (.type "object") = some true
def spOneW (CW CE : Addr) : Sp := fun vs H Q _ => ∃ (a b wk wk' : Addr) (nm : Str) (ws : List Str) (S T : Nat → Bool), vs = [.ref a, .ref b] ∧ EdAt CW CE H a wk nm ws S ∧ EdAt CW CE H b wk' nm ws T ∧ WOk ws ∧ Q .non H
abbrev s_require_one_work : Stmt := top 16
theorem sc_require_one_work : FnScope ["one", "other"] ["one", "other"] (defScope s_require_one_work) := ⟨rfl, rfl, rfl, by decide +kernel, rfl, by decide +kernel, by decide +kernel⟩
theorem ok_onew {CW CE fE : Addr} {fdE : FuncData} (F : Fun K "require_one_work" "require_one_work" s_require_one_work f fd) (W : EdTxt K CE) (T : WkNe K CW) (M_Work_eq : MetOk P w K mg base 1 CW "__eq__" fE fdE ["self", "other"] (spWkEq CW)) :
    FnOk P w K mg base CX0 3 f fd ["one", "other"] (spOneW CW CE) := by
  refine F.ok sc_require_one_work (fun vs H Q E h => ?_) (fun cdv A outer s H vs Q E hr h => ?_)
  · obtain ⟨a, b, wk, wk', nm, ws, S, U, rfl, _⟩ := h
    rfl
  · obtain ⟨a, b, wk, wk', nm, ws, S, U, rfl, he, hf, hw, k⟩ := h
    obtain ⟨dx, t, u, v, h1, h2, h3, h4⟩ := id he.ob
    obtain ⟨dy, t', u', v', g1, g2, g3, g4⟩ := id hf.ob
    obtain ⟨dw, tw, ew, o1, _, _⟩ := id he.wk.ob
    obtain ⟨dw', tw', ew', o1', _, _⟩ := id hf.wk.ob
    refine ⟨_, (pss_one (ps_if (pt_cmpR (M_Work_eq.ne T.ne_Work T.ob_Work (hr.mono (by decide))) (pe_fld (pv 0) rfl) (pe_fld (pv 1) rfl) (nomark _)) (pss_one ps_never) pss_nil)), ?_⟩
    refine ⟨_, rfl, a, CE, dx, _, _, rfl, h1, W.cl, W.nK, ed_work _ _ _ _, _, rfl, b, CE, dy, _, _, rfl, g1, W.cl, W.nK, ed_work _ _ _ _, ?_⟩
    refine ⟨wk, dw, _, wk', dw', _, rfl, rfl, o1, o1', wk, wk', nm, nm, ws, ws, rfl, he.wk, hf.wk, hw.ok.wd, hw.ok.wd, ?_⟩
    rw [decide_eq_true (show nm = nm ∧ ws = ws from ⟨rfl, rfl⟩)]
    exact ⟨true, rfl, _, rfl, k⟩
/-- both editions are of equal works; what is made is of the first one's -/
def spJoin (CW CE : Addr) (op : Bool → Bool → Bool) : Sp := fun vs H Q _ => ∃ (a b wk wk' : Addr) (nm : Str) (ws : List Str) (S T : Nat → Bool), vs = [.ref a, .ref b] ∧ EdAt CW CE H a wk nm ws S ∧ EdAt CW CE H b wk' nm ws T ∧ WOk ws ∧
  ∀ p H', H p = none → Same H H' → EdAt CW CE H' p wk nm ws (fun i => op (S i) (T i)) → Q (.ref p) H'
abbrev s_Edition_and : Stmt := inClass (top 13) 8
theorem sc_Edition_and : FnScope ["self", "other", "word"] ["self", "other"] (defScope s_Edition_and) := ⟨rfl, rfl, rfl, by decide +kernel, rfl, by decide +kernel, by decide +kernel⟩
theorem ok_and {CW CE fO fE : Addr} {fdO fdE : FuncData} (F : Fun K "__and__" "Edition.__and__" s_Edition_and f fd) (W : EdTxt K CE) (D_require_one_work : DefOk P w K mg base 3 "require_one_work" fO fdO ["one", "other"] (spOneW CW CE))
    (K_Edition : ClsOk P w K mg base 4 "Edition" CE fE fdE ["self", "work", "passages"] (spEdInit CW CE)) : FnOk P w K mg base CX0 6 f fd ["self", "other"] (spJoin CW CE fun a b => a && b) := by
  refine F.ok sc_Edition_and (fun vs H Q E h => ?_) (fun cdv A outer s H vs Q E hr h => ?_)
  · obtain ⟨a, b, wk, wk', nm, ws, S, U, rfl, _⟩ := h
    rfl
  · obtain ⟨a, b, wk, wk', nm, ws, S, U, rfl, he, hf, hw, k⟩ := h
    obtain ⟨dx, t, u, v, h1, h2, h3, h4⟩ := id he.ob
    obtain ⟨dy, t', u', v', g1, g2, g3, g4⟩ := id hf.ob
    refine ⟨_, (pss_cons (ps_expr (pe_d D_require_one_work (hr.mono (by decide)) (pa_cons (pv 0) (pa_cons (pv 1) pa_nil))))
        (pss_one (ps_ret (pe_mk K_Edition (hr.mono (by decide)) (by exact (pa_cons (pe_fld (pv 0) rfl) (pa_cons (pe_lc (own := [("word", 2)]) (g := gName 2) (tt := (tTest (tOp (rIn K false) (tVar 2) (tFld K (tVar 1) "words")))) (te := (tVar 2)) rfl sc_Edition_and.nd (pi_tup (pe_fld (pv 0) rfl)) (blkOk_by (own := [("word", 2)]) (by kernel_rfl)) (fun _ _ _ _ _ => (pg_name (i := 2) sc_Edition_and.nd rfl (by first | exact Or.inl rfl | exact Or.inr rfl))) (fun _ _ _ _ _ => by exact (pts_one (pt_cmpR op_in_seq (pv 2) (pe_fld (pv 1) rfl) (by rfl)))) (fun _ _ _ _ _ => by exact (pv 2))) pa_nil))))))), ?_⟩
    refine ⟨_, rfl, _, rfl, a, b, wk, wk', nm, ws, S, U, rfl, he, hf, hw, ?_⟩
    refine ⟨_, rfl, a, CE, dx, _, _, rfl, h1, W.cl, W.nK, ed_work _ _ _ _, ?_⟩
    refine ⟨_, rfl, a, CE, dx, _, _, rfl, h1, W.cl, W.nW, ed_words _ _ _ _, t, rfl, ⟨_, SqT.of h2⟩, fun D nD => ?_⟩
    refine lc_tup (K := K) (a := t) (xs := (pick ws S).map V.str) (fun i H' => Same H H' ∧ H' D = some (.lst ((((idx ws.length S).take i).filter U).map fun j => V.str (ws.getD j no)))) ⟨Same.upd' nD, upd_same⟩ (fun i H' _ p => SqT.of (p.1 _ _ h2)) ?_ ?_
    · rintro i x H' hx ⟨e, hD⟩
      have hi : i < (idx ws.length S).length := by
        have := (List.getElem?_eq_some_iff.mp hx).1
        unfold pick at this
        simpa using this
      obtain ⟨j, hj⟩ : ∃ j, (idx ws.length S)[i]? = some j := ⟨_, List.getElem?_eq_getElem hi⟩
      have hjm := idx_mem.mp (List.mem_of_getElem? hj)
      rw [pick_at hj] at hx
      cases (Option.some.inj hx)
      refine ⟨rfl, _, rfl, _, rfl, b, CE, dy, _, _, rfl, e _ _ g1, W.cl, W.nW, ed_words _ _ _ _, t', _, rfl, .inr (SqT.of (e _ _ g2)), rfl, strs_flat _, _, rfl, ?_⟩
      show if inV (.str (ws.getD j no)) ((pick ws U).map V.str) = true then _ else _
      rw [strs_in, pick_in hw.ok.nd hjm.1]
      have hlen : (((idx ws.length S).take i).filter U).length ≤ 60 := Nat.le_trans (List.length_filter_le _ _) (Nat.le_trans (by simp; omega) (Nat.le_trans (idx_len ws.length S) hw.l1))
      refine ite2 (fun hU => ?_) (fun hU => ?_)
      · refine ⟨_, rfl, _, hD, small1000 (by rw [List.length_map]; omega), Same.mut e nD, ?_⟩
        rw [upd_same, List.take_succ, hj]
        simp [hU]
      · refine ⟨e, ?_⟩
        rw [hD, List.take_succ, hj]
        simp [hU]
    · rintro H' ⟨e, hD⟩
      have hl : ((pick ws S).map V.str).length = (idx ws.length S).length := by rw [List.length_map]; unfold pick; rw [List.length_map]
      rw [hl, List.take_length, filter_and] at hD
      refine mkEd (S := fun i => S i && U i) (he.wk.same e) hw (.inl ?_) fun x H2 nx e2 hx => k x H2 (Same.free e nx) (Same.trans e e2) hx
      rw [hD]
      unfold pick
      rw [List.map_map]
      rfl
abbrev s_Edition_sub : Stmt := inClass (top 13) 10
theorem sc_Edition_sub : FnScope ["self", "other", "word"] ["self", "other"] (defScope s_Edition_sub) := ⟨rfl, rfl, rfl, by decide +kernel, rfl, by decide +kernel, by decide +kernel⟩
theorem ok_sub {CW CE fO fE : Addr} {fdO fdE : FuncData} (F : Fun K "__sub__" "Edition.__sub__" s_Edition_sub f fd) (W : EdTxt K CE) (D_require_one_work : DefOk P w K mg base 3 "require_one_work" fO fdO ["one", "other"] (spOneW CW CE))
    (K_Edition : ClsOk P w K mg base 4 "Edition" CE fE fdE ["self", "work", "passages"] (spEdInit CW CE)) : FnOk P w K mg base CX0 6 f fd ["self", "other"] (spJoin CW CE fun a b => a && !b) := by
  refine F.ok sc_Edition_sub (fun vs H Q E h => ?_) (fun cdv A outer s H vs Q E hr h => ?_)
  · obtain ⟨a, b, wk, wk', nm, ws, S, U, rfl, _⟩ := h
    rfl
  · obtain ⟨a, b, wk, wk', nm, ws, S, U, rfl, he, hf, hw, k⟩ := h
    obtain ⟨dx, t, u, v, h1, h2, h3, h4⟩ := id he.ob
    obtain ⟨dy, t', u', v', g1, g2, g3, g4⟩ := id hf.ob
    refine ⟨_, (pss_cons (ps_expr (pe_d D_require_one_work (hr.mono (by decide)) (pa_cons (pv 0) (pa_cons (pv 1) pa_nil))))
        (pss_one (ps_ret (pe_mk K_Edition (hr.mono (by decide)) (by exact (pa_cons (pe_fld (pv 0) rfl) (pa_cons (pe_lc (own := [("word", 2)]) (g := gName 2) (tt := (tTest (tOp (rIn K true) (tVar 2) (tFld K (tVar 1) "words")))) (te := (tVar 2)) rfl sc_Edition_sub.nd (pi_tup (pe_fld (pv 0) rfl)) (blkOk_by (own := [("word", 2)]) (by kernel_rfl)) (fun _ _ _ _ _ => (pg_name (i := 2) sc_Edition_sub.nd rfl (by first | exact Or.inl rfl | exact Or.inr rfl))) (fun _ _ _ _ _ => by exact (pts_one (pt_cmpR op_notIn_seq (pv 2) (pe_fld (pv 1) rfl) (by rfl)))) (fun _ _ _ _ _ => by exact (pv 2))) pa_nil))))))), ?_⟩
    refine ⟨_, rfl, _, rfl, a, b, wk, wk', nm, ws, S, U, rfl, he, hf, hw, ?_⟩
    refine ⟨_, rfl, a, CE, dx, _, _, rfl, h1, W.cl, W.nK, ed_work _ _ _ _, ?_⟩
    refine ⟨_, rfl, a, CE, dx, _, _, rfl, h1, W.cl, W.nW, ed_words _ _ _ _, t, rfl, ⟨_, SqT.of h2⟩, fun D nD => ?_⟩
    refine lc_tup (K := K) (a := t) (xs := (pick ws S).map V.str) (fun i H' => Same H H' ∧ H' D = some (.lst ((((idx ws.length S).take i).filter fun j => !U j).map fun j => V.str (ws.getD j no)))) ⟨Same.upd' nD, upd_same⟩ (fun i H' _ p => SqT.of (p.1 _ _ h2)) ?_ ?_
    · rintro i x H' hx ⟨e, hD⟩
      have hi : i < (idx ws.length S).length := by
        have := (List.getElem?_eq_some_iff.mp hx).1
        unfold pick at this
        simpa using this
      obtain ⟨j, hj⟩ : ∃ j, (idx ws.length S)[i]? = some j := ⟨_, List.getElem?_eq_getElem hi⟩
      have hjm := idx_mem.mp (List.mem_of_getElem? hj)
      rw [pick_at hj] at hx
      cases (Option.some.inj hx)
      refine ⟨rfl, _, rfl, _, rfl, b, CE, dy, _, _, rfl, e _ _ g1, W.cl, W.nW, ed_words _ _ _ _, t', _, rfl, .inr (SqT.of (e _ _ g2)), rfl, strs_flat _, _, rfl, ?_⟩
      show if (!inV (.str (ws.getD j no)) ((pick ws U).map V.str)) = true then _ else _
      rw [strs_in, pick_in hw.ok.nd hjm.1]
      have hlen : (((idx ws.length S).take i).filter fun j => !U j).length ≤ 60 := Nat.le_trans (List.length_filter_le _ _) (Nat.le_trans (by simp; omega) (Nat.le_trans (idx_len ws.length S) hw.l1))
      refine ite2 (fun hU => ?_) (fun hU => ?_)
      · refine ⟨_, rfl, _, hD, small1000 (by rw [List.length_map]; omega), Same.mut e nD, ?_⟩
        have hU : U j = false := by simpa using hU
        rw [upd_same, List.take_succ, hj]
        simp [hU]
      · refine ⟨e, ?_⟩
        have hU : U j = true := by simpa using hU
        rw [hD, List.take_succ, hj]
        simp [hU]
    · rintro H' ⟨e, hD⟩
      have hl : ((pick ws S).map V.str).length = (idx ws.length S).length := by rw [List.length_map]; unfold pick; rw [List.length_map]
      rw [hl, List.take_length, filter_and] at hD
      refine mkEd (S := fun i => S i && !U i) (he.wk.same e) hw (.inl ?_) fun x H2 nx e2 hx => k x H2 (Same.free e nx) (Same.trans e e2) hx
      rw [hD]
      unfold pick
      rw [List.map_map]
      rfl
abbrev s_Edition_or : Stmt := inClass (top 13) 9
theorem sc_Edition_or : FnScope ["self", "other", "either", "word"] ["self", "other"] (defScope s_Edition_or) := ⟨rfl, rfl, rfl, by decide +kernel, rfl, by decide +kernel, by decide +kernel⟩
theorem ok_or {CW CE fO fE : Addr} {fdO fdE : FuncData} (F : Fun K "__or__" "Edition.__or__" s_Edition_or f fd) (W : EdTxt K CE) (W' : WkTxt K CW) (D_require_one_work : DefOk P w K mg base 3 "require_one_work" fO fdO ["one", "other"] (spOneW CW CE))
    (K_Edition : ClsOk P w K mg base 4 "Edition" CE fE fdE ["self", "work", "passages"] (spEdInit CW CE)) : FnOk P w K mg base CX0 6 f fd ["self", "other"] (spJoin CW CE fun a b => a || b) := by
  refine F.ok sc_Edition_or (fun vs H Q E h => ?_) (fun cdv A outer s H vs Q E hr h => ?_)
  · obtain ⟨a, b, wk, wk', nm, ws, S, U, rfl, _⟩ := h
    rfl
  · obtain ⟨a, b, wk, wk', nm, ws, S, U, rfl, he, hf, hw, k⟩ := h
    obtain ⟨dx, t, u, v, h1, h2, h3, h4⟩ := id he.ob
    obtain ⟨dy, t', u', v', g1, g2, g3, g4⟩ := id hf.ob
    obtain ⟨dw, tw, ew, o1, o2, o3⟩ := id he.wk.ob
    refine ⟨_, (pss_cons (ps_expr (pe_d D_require_one_work (hr.mono (by decide)) (pa_cons (pv 0) (pa_cons (pv 1) pa_nil))))
        (pss_cons (ps_setLc (i := 2) (own := [("word", 3)]) (g := gName 3) (tt := (tOr (tTest (tOp (rIn K false) (tVar 3) (tFld K (tVar 0) "words"))) (tTest (tOp (rIn K false) (tVar 3) (tFld K (tVar 1) "words"))))) (te := (tVar 3)) rfl sc_Edition_or.nd rfl rfl (sw_true rfl rfl rfl (by decide +kernel)) (pi_tup (pe_fld (pe_fld (pv 0) rfl) rfl)) (blkOk_by (own := [("word", 3)]) (by kernel_rfl)) (fun _ _ _ _ _ => (pg_name (i := 3) sc_Edition_or.nd rfl (by first | exact Or.inl rfl | exact Or.inr rfl))) (fun _ _ _ _ _ => by exact (pts_one (PW.pt (pw_or (pt_cmpR op_in_seq (pv 3) (pe_fld (pv 0) rfl) (by rfl)) (pw_or1 (pt_cmpR op_in_seq (pv 3) (pe_fld (pv 1) rfl) (by rfl))))))) (fun _ _ _ _ _ => by exact (pv 3)))
        (pss_one (ps_ret (pe_mk K_Edition (hr.mono (by decide)) (pa_cons (pe_fld (pv 0) rfl) (pa_cons (pv 2) pa_nil))))))), ?_⟩
    refine ⟨_, rfl, _, rfl, a, b, wk, wk', nm, ws, S, U, rfl, he, hf, hw, ?_⟩
    refine ⟨_, rfl, a, CE, dx, _, _, rfl, h1, W.cl, W.nK, ed_work _ _ _ _, wk, CW, dw, _, _, rfl, o1, W'.cl, W'.nW, wk_words _ _ _, tw, rfl, ⟨_, SqT.of o2⟩, fun D nD => ?_⟩
    refine lc_tup (K := K) (a := tw) (xs := ws.map V.str) (fun i H' => Same H H' ∧ H' D = some (.lst (((List.range i).filter fun j => S j || U j).map fun j => V.str (ws.getD j no)))) ⟨Same.upd' nD, upd_same⟩ (fun i H' _ p => SqT.of (p.1 _ _ o2)) ?_ ?_
    · rintro i x H' hx ⟨e, hD⟩
      have hi : i < ws.length := by
        have := (List.getElem?_eq_some_iff.mp hx).1
        simpa using this
      rw [List.getElem?_map, nth_at hi] at hx
      cases (Option.some.inj hx)
      have hlen : ((List.range i).filter fun j => S j || U j).length ≤ 60 := Nat.le_trans (List.length_filter_le _ _) (by have := hw.l1; simp; omega)
      have no_ : (S i || U i) = false → Same H H' ∧ H' D = some (.lst (((List.range (i + 1)).filter fun j => S j || U j).map fun j => V.str (ws.getD j no))) := fun hb => ⟨e, by rw [hD, List.range_succ, List.filter_append]; simp [hb]⟩
      have yes_ : (S i || U i) = true → Same H (upd H' D (.lst ((((List.range i).filter fun j => S j || U j).map fun j => V.str (ws.getD j no)) ++ [.str (ws.getD i no)]))) ∧ (upd H' D (.lst ((((List.range i).filter fun j => S j || U j).map fun j => V.str (ws.getD j no)) ++ [.str (ws.getD i no)]))) D = some (.lst (((List.range (i + 1)).filter fun j => S j || U j).map fun j => V.str (ws.getD j no))) :=
        fun hb => ⟨Same.mut e nD, by rw [upd_same, List.range_succ, List.filter_append]; simp [hb]⟩
      refine ⟨rfl, _, rfl, _, rfl, a, CE, dx, _, _, rfl, e _ _ h1, W.cl, W.nW, ed_words _ _ _ _, t, _, rfl, .inr (SqT.of (e _ _ h2)), rfl, strs_flat _, _, rfl, ?_⟩
      show if inV (.str (ws.getD i no)) ((pick ws S).map V.str) = true then _ else _
      rw [strs_in, pick_in hw.ok.nd hi]
      refine ite2 (fun hS => ?_) (fun hS => ?_)
      · exact ⟨_, rfl, _, hD, small1000 (by rw [List.length_map]; omega), yes_ (by simp [hS])⟩
      · refine ⟨_, rfl, _, rfl, b, CE, dy, _, _, rfl, e _ _ g1, W.cl, W.nW, ed_words _ _ _ _, t', _, rfl, .inr (SqT.of (e _ _ g2)), rfl, strs_flat _, _, rfl, ?_⟩
        show if inV (.str (ws.getD i no)) ((pick ws U).map V.str) = true then _ else _
        rw [strs_in, pick_in hw.ok.nd hi]
        refine ite2 (fun hU => ?_) (fun hU => ?_)
        · exact ⟨_, rfl, _, hD, small1000 (by rw [List.length_map]; omega), yes_ (by simp [hU])⟩
        · exact no_ (by simp [hS, hU])
    · rintro H' ⟨e, hD⟩
      rw [List.length_map] at hD
      refine ⟨_, rfl, a, CE, dx, _, _, rfl, e _ _ h1, W.cl, W.nK, ed_work _ _ _ _, _, rfl, ?_⟩
      refine mkEd (S := fun i => S i || U i) (he.wk.same e) hw (.inl ?_) fun x H2 nx e2 hx => k x H2 (Same.free e nx) (Same.trans e e2) hx
      rw [hD]
      unfold pick
      rw [List.map_map]
      rfl
def spLe (CW CE : Addr) : Sp := fun vs H Q _ => ∃ (a b wk wk' : Addr) (nm : Str) (ws : List Str) (S T : Nat → Bool), vs = [.ref a, .ref b] ∧ EdAt CW CE H a wk nm ws S ∧ EdAt CW CE H b wk' nm ws T ∧ WOk ws ∧
  ∀ H', Same H H' → Q (.bl ((idx ws.length S).all T)) H'
abbrev s_Edition_le : Stmt := inClass (top 13) 11
theorem sc_Edition_le : FnScope ["self", "other", "word"] ["self", "other"] (defScope s_Edition_le) := ⟨rfl, rfl, rfl, by decide +kernel, rfl, by decide +kernel, by decide +kernel⟩
theorem ok_le {CW CE fO : Addr} {fdO : FuncData} (F : Fun K "__le__" "Edition.__le__" s_Edition_le f fd) (T : Blt mg) (W : EdTxt K CE) (D_require_one_work : DefOk P w K mg base 3 "require_one_work" fO fdO ["one", "other"] (spOneW CW CE)) :
    FnOk P w K mg base CX0 4 f fd ["self", "other"] (spLe CW CE) := by
  refine F.ok sc_Edition_le (fun vs H Q E h => ?_) (fun cdv A outer s H vs Q E hr h => ?_)
  · obtain ⟨a, b, wk, wk', nm, ws, S, U, rfl, _⟩ := h
    rfl
  · obtain ⟨a, b, wk, wk', nm, ws, S, U, rfl, he, hf, hw, k⟩ := h
    obtain ⟨dx, t, u, v, h1, h2, h3, h4⟩ := id he.ob
    obtain ⟨dy, t', u', v', g1, g2, g3, g4⟩ := id hf.ob
    refine ⟨_, (pss_cons (ps_expr (pe_d D_require_one_work (hr.mono (by decide)) (pa_cons (pv 0) (pa_cons (pv 1) pa_nil))))
        (pss_one (ps_ret (pe_callB (cr_all rfl) (by rfl) T.b_all (by decide +kernel) (by exact (pa_cons (pe_lc (own := [("word", 2)]) (g := gName 2) (tt := tYes) (te := (tOp (rIn K false) (tVar 2) (tFld K (tVar 1) "words"))) rfl sc_Edition_le.nd (pi_tup (pe_fld (pv 0) rfl)) (blkOk_by (own := [("word", 2)]) (by kernel_rfl)) (fun _ _ _ _ _ => (pg_name (i := 2) sc_Edition_le.nd rfl (by first | exact Or.inl rfl | exact Or.inr rfl))) (fun _ _ _ _ _ => pts_nil) (fun _ _ _ _ _ => by exact (pe_cmpR op_in_seq (pv 2) (pe_fld (pv 1) rfl) (by rfl)))) pa_nil)))))), ?_⟩
    refine ⟨_, rfl, _, rfl, a, b, wk, wk', nm, ws, S, U, rfl, he, hf, hw, ?_⟩
    refine ⟨_, rfl, a, CE, dx, _, _, rfl, h1, W.cl, W.nW, ed_words _ _ _ _, t, rfl, ⟨_, SqT.of h2⟩, fun D nD => ?_⟩
    refine lc_tup (K := K) (a := t) (xs := (pick ws S).map V.str) (fun i H' => Same H H' ∧ H' D = some (.lst ((((idx ws.length S).take i).map U).map V.bl))) ⟨Same.upd' nD, upd_same⟩ (fun i H' _ p => SqT.of (p.1 _ _ h2)) ?_ ?_
    · rintro i x H' hx ⟨e, hD⟩
      have hi : i < (idx ws.length S).length := by
        have := (List.getElem?_eq_some_iff.mp hx).1
        unfold pick at this
        simpa using this
      obtain ⟨j, hj⟩ : ∃ j, (idx ws.length S)[i]? = some j := ⟨_, List.getElem?_eq_getElem hi⟩
      have hjm := idx_mem.mp (List.mem_of_getElem? hj)
      rw [pick_at hj] at hx
      cases (Option.some.inj hx)
      refine ⟨rfl, _, rfl, _, rfl, b, CE, dy, _, _, rfl, e _ _ g1, W.cl, W.nW, ed_words _ _ _ _, t', _, rfl, .inr (SqT.of (e _ _ g2)), rfl, strs_flat _, _, hD, small1000 (by simp; have := idx_len ws.length S; have := hw.l1; omega), Same.mut e nD, ?_⟩
      rw [upd_same]
      show some (HO.lst (_ ++ [V.bl (inV (.str (ws.getD j no)) ((pick ws U).map V.str))])) = _
      rw [strs_in, pick_in hw.ok.nd hjm.1, List.take_succ, hj]
      simp
    · rintro H' ⟨e, hD⟩
      have hl : ((pick ws S).map V.str).length = (idx ws.length S).length := by rw [List.length_map]; unfold pick; rw [List.length_map]
      rw [hl, List.take_length] at hD
      refine ⟨_, _, rfl, SqL.of hD, ?_⟩
      have q := k H' e
      have e2 : ((idx ws.length S).map U).all id = (idx ws.length S).all U := by rw [List.all_map]; rfl
      rw [← e2] at q
      exact q
end
end Lm

namespace Lm
open PySem L2 Evl RZ
structure EdIsi (K : PySem.W.Frag) (mg : Str → Option Value) (C : Addr) : Prop where
  g_Edition : mg "Edition" = some (.ref C)
  ha : PySem.W.findIn K (.ref C) "__class__" = some (some (.builtin "object.__class__"))
  hn : PySem.W.specialIn K (.builtin "object.__class__") "__get__" = some (some (.builtin "getset_descriptor.__get__"))
  htk : PySem.W.takesIn K (.builtin "object.__class__") = some true
  hm : PySem.W.mroIn K C (.type "object") = some true
  ko : PySem.W.kitOne K (.ref C) (.ref C) = some true
/-! ### two things that are the same, of depth below d -/
def SameV (H : Hp) : Nat → V → V → Prop
  | 0 => fun _ _ => False
  | d + 1 => fun x y => (∃ i, x = .int i ∧ y = .int i) ∨ (∃ b, x = .bl b ∧ y = .bl b) ∨ (∃ s, x = .str s ∧ y = .str s) ∨ (x = .non ∧ y = .non) ∨
    (∃ a b xs ys, x = .ref a ∧ y = .ref b ∧ H a = some (.lst xs) ∧ H b = some (.lst ys) ∧ xs.length = ys.length ∧ xs.length ≤ 40000 ∧ ∀ (i : Nat) u v, xs[i]? = some u → ys[i]? = some v → SameV H d u v) ∨
    (∃ a b xs ys, x = .ref a ∧ y = .ref b ∧ H a = some (.tup xs) ∧ H b = some (.tup ys) ∧ xs.length = ys.length ∧ xs.length ≤ 40000 ∧ ∀ (i : Nat) u v, xs[i]? = some u → ys[i]? = some v → SameV H d u v)
theorem SameV.ex {H H' : Hp} (e : Ex H H') : ∀ {d : Nat} {x y : V}, SameV H d x y → SameV H' d x y
  | 0, _, _, h => h
  | d + 1, x, y, h => by
    rcases h with h | h | h | h | ⟨a, b, xs, ys, rfl, rfl, ha, hb, h1, h2, h3⟩ | ⟨a, b, xs, ys, rfl, rfl, ha, hb, h1, h2, h3⟩
    · exact .inl h
    · exact .inr (.inl h)
    · exact .inr (.inr (.inl h))
    · exact .inr (.inr (.inr (.inl h)))
    · exact .inr (.inr (.inr (.inr (.inl ⟨a, b, xs, ys, rfl, rfl, e _ _ ha, e _ _ hb, h1, h2, fun i u v q1 q2 => SameV.ex e (h3 i u v q1 q2)⟩))))
    · exact .inr (.inr (.inr (.inr (.inr ⟨a, b, xs, ys, rfl, rfl, e _ _ ha, e _ _ hb, h1, h2, fun i u v q1 q2 => SameV.ex e (h3 i u v q1 q2)⟩))))
theorem SameV.int {H : Hp} {d : Nat} (i : Int) : SameV H (d + 1) (.int i) (.int i) := .inl ⟨i, rfl, rfl⟩
theorem SameV.bl {H : Hp} {d : Nat} (i : Bool) : SameV H (d + 1) (.bl i) (.bl i) := .inr (.inl ⟨i, rfl, rfl⟩)
theorem SameV.str {H : Hp} {d : Nat} (i : Str) : SameV H (d + 1) (.str i) (.str i) := .inr (.inr (.inl ⟨i, rfl, rfl⟩))
theorem SameV.non {H : Hp} {d : Nat} : SameV H (d + 1) .non .non := .inr (.inr (.inr (.inl ⟨rfl, rfl⟩)))
theorem SameV.lst {H : Hp} {d : Nat} {a b : Addr} {xs ys : List V} (ha : H a = some (.lst xs)) (hb : H b = some (.lst ys)) (h1 : xs.length = ys.length) (h2 : xs.length ≤ 40000) (h3 : ∀ (i : Nat) u v, xs[i]? = some u → ys[i]? = some v → SameV H d u v) : SameV H (d + 1) (.ref a) (.ref b) :=
  .inr (.inr (.inr (.inr (.inl ⟨a, b, xs, ys, rfl, rfl, ha, hb, h1, h2, h3⟩))))
theorem SameV.tup {H : Hp} {d : Nat} {a b : Addr} {xs ys : List V} (ha : H a = some (.tup xs)) (hb : H b = some (.tup ys)) (h1 : xs.length = ys.length) (h2 : xs.length ≤ 40000) (h3 : ∀ (i : Nat) u v, xs[i]? = some u → ys[i]? = some v → SameV H d u v) : SameV H (d + 1) (.ref a) (.ref b) :=
  .inr (.inr (.inr (.inr (.inr ⟨a, b, xs, ys, rfl, rfl, ha, hb, h1, h2, h3⟩))))
/-- lists of flat things alike -/
theorem SameV.flat {H : Hp} {d : Nat} {a b : Addr} {xs : List V} (ha : H a = some (.lst xs)) (hb : H b = some (.lst xs)) (h2 : xs.length ≤ 40000) (h : ∀ x ∈ xs, SameV H (d + 1) x x) : SameV H (d + 2) (.ref a) (.ref b) :=
  .lst ha hb rfl h2 fun i u v q1 q2 => by
    rw [q1] at q2
    cases (Option.some.inj q2)
    exact h u (List.mem_of_getElem? q1)
theorem ok_none {P : Program} {w : World} {K : PySem.W.Frag} {mg : Str → Option Value} {base : Heap} {f : Addr} {fd : FuncData} {k : Nat} {ps : List Str} : FnOk P w K mg base CX0 k f fd ps (fun _ _ _ _ => False) :=
  ⟨fun _ _ _ _ h => h.elim, fun _ _ _ _ _ _ _ _ _ _ _ _ _ h => h.elim⟩
section
variable {K : PySem.W.Frag} {σ : L2.St} {H : Hp} {te : TE}
theorem ev_isi {x c : V} {t u : Value} {b : Bool} (h : Ev te σ H x) (hc : ClsV c u) (ht : ∀ H1, Ex H H1 → TyX K H1 x t) (hk : PySem.W.kitOne K t u = some b) : Ev (tCB (rIsi K) (tCons te (tCons (tC c) tNil))) σ H (.bl b) :=
  ev_cb (ea_cons h (ea_cons ev_c ea_nil)) fun H1 e Q q => ⟨x, c, t, u, b, rfl, hc, ht H1 e, hk, q H1 (Ex.refl _)⟩
theorem ev_isiT {x : V} {cs : List V} {t : Value} {us : List Value} {b : Bool} {ta : TA} (h : Ev te σ H x) (hcs : EvA ta σ H cs) (hl : cs.length ≤ 100000) (hc : Paired ClsV cs us) (ht : ∀ H1, Ex H H1 → TyX K H1 x t) (hk : PySem.W.kitAny K t us = some b) :
    Ev (tCB (rIsiT K) (tCons te (tCons (tTup ta) tNil))) σ H (.bl b) := fun H1 e Q q => h H1 e _ fun H2 e2 => hcs H2 (e.trans e2) _ fun H3 e3 => ⟨sz_of hl, fun p np =>
      ⟨x, p, cs, t, us, b, rfl, upd_same, hc, ht _ (((e.trans e2).trans e3).trans (Ex.new np)), hk, q _ ((e2.trans e3).trans (Ex.new np))⟩⟩
/-- over zip of two lists -/
theorem el_lcZ {a b : Addr} {xs ys : List V} {ta tb : TE} {i j : Nat} {vs : List Nat} (v : Nat → V) (ha : Ev ta σ H (.ref a)) (hb : Ev tb σ H (.ref b)) (hx : H a = some (.lst xs) ∧ H b = some (.lst ys) ∨ H a = some (.tup xs) ∧ H b = some (.tup ys)) (hl : xs.length = ys.length) (hz : xs.length ≤ 40000)
    (hw : ∀ x y, wipe (((wipe σ vs).set i (some x)).set j (some y)) vs = wipe σ vs) (he : ∀ (n : Nat) (x y : V) H1, Ex H H1 → xs[n]? = some x → ys[n]? = some y → Ev te (((wipe σ vs).set i (some x)).set j (some y)) H1 (v n)) :
    EvL (tLc (iZipA K (tCons ta (tCons tb tNil))) (gTup K 2 (gCons (gName i) (gCons (gName j) gNil))) tYes te vs) σ H ((List.range xs.length).map v) := fun H0 e Q q => ha H0 e _ fun H1 e1 => hb H1 (e.trans e1) _ fun H2 e2 => by
  have E := (e.trans e1).trans e2
  have hmin : xs.length = min xs.length ys.length := by omega
  have turn : ∀ (n : Nat) (z : V) (Hn Hn' : Hp) (D : Addr), n < xs.length → Cw H2 (fun _ => true) v D n Hn → YPair (fun i => xs[i]?) (fun i => ys[i]?) n Hn z Hn' →
      gTup K 2 (gCons (gName i) (gCons (gName j) gNil)) z (wipe σ vs) Hn' fun σ2 H2' => wipe σ2 vs = wipe σ vs ∧ tYes σ2 H2' fun b H3 => if b = true then te σ2 H3 fun y H4 => ∃ acc, H4 D = some (.lst acc) ∧ acc.length < sizeLine ∧ Cw H2 (fun _ => true) v D (n + 1) (upd H4 D (.lst (acc ++ [y]))) else Cw H2 (fun _ => true) v D (n + 1) H3 := by
    rintro n z Hn Hn' D hn p ⟨T', x, y, rfl, nT, rfl, hx1, hy1⟩
    refine ⟨T', _, rfl, SqT.of upd_same, rfl, _, _, rfl, _, _, rfl, rfl, hw x y, ?_⟩
    have p' : Cw H2 (fun _ => true) v D n (upd Hn T' (.tup [x, y])) := ⟨p.1, p.2.1.trans (Ex.new nT), by rw [upd_ne (ne_of_none p.2.2 nT)]; exact p.2.2⟩
    exact cw_turn (t := tYes) p' (by omega) (fun H1 _ _ q => q H1 (Ex.refl H1)) fun _ => he n x y H2 E hx1 hy1
  have fin : ∀ D H', Cw H2 (fun _ => true) v D xs.length H' → Q (.ref D) H' := fun D H' p => q D H' (fresh_back (e1.trans e2) p.1) ((e1.trans e2).trans p.2.1) (by
    rw [p.2.2]
    unfold given
    rw [List.filter_eq_self.mpr fun _ _ => rfl])
  refine ⟨a, b, xs, ys, rfl, ?_⟩
  rcases hx with ⟨h1, h2⟩ | ⟨h1, h2⟩
  · refine .inl ⟨sq_of (E _ _ h1), sq_of (E _ _ h2), fun D hD => lc_it (walk_zip hmin) (Cw H2 (fun _ => true) v D) ⟨hD, Ex.new hD, upd_same⟩ (fun n H' _ p => ⟨sq_of ((E.trans p.2.1) _ _ h1), sq_of ((E.trans p.2.1) _ _ h2)⟩) (fun n z Hn Hn' hn p y => turn n z Hn Hn' D hn p y) (fun H' p => fin D H' p)⟩
  · refine .inr ⟨st_of (E _ _ h1), st_of (E _ _ h2), fun D hD => lc_it (walk_zipT hmin) (Cw H2 (fun _ => true) v D) ⟨hD, Ex.new hD, upd_same⟩ (fun n H' _ p => ⟨st_of ((E.trans p.2.1) _ _ h1), st_of ((E.trans p.2.1) _ _ h2)⟩) (fun n z Hn Hn' hn p y => turn n z Hn Hn' D hn p y) (fun H' p => fin D H' p)⟩
theorem ev_lenL {p : Addr} {xs : List V} (ha : Ev te σ H (.ref p)) (h : H p = some (.lst xs)) : Ev (tCB (rLenS K) (tCons te tNil)) σ H (.int (xs.length : Int)) := ev_len ha (sq_of h)
theorem ev_lenT {p : Addr} {xs : List V} (ha : Ev te σ H (.ref p)) (h : H p = some (.tup xs)) : Ev (tCB (rLenS K) (tCons te tNil)) σ H (.int (xs.length : Int)) := ev_cb (ea_cons ha ea_nil) fun H1 e Q q => ⟨p, xs, rfl, .inr (st_of (e _ _ h)), q H1 (Ex.refl _)⟩
theorem ev_isB {x y : Bool} {ta tb : TE} (ha : Ev ta σ H (.bl x)) (hb : Ev tb σ H (.bl y)) : Ev (tOp rIsB ta tb) σ H (.bl (decide (x = y))) := ev_op ha hb fun H1 _ Q q => ⟨x, y, rfl, rfl, q H1 (Ex.refl _)⟩
theorem ev_all {bs : List Bool} (h : EvL te σ H (bs.map V.bl)) : Ev (tCB (rAll K) (tCons te tNil)) σ H (.bl (bs.all id)) := fun H1 e Q q =>
  h H1 e _ fun p H2 _ e2 hp => ⟨p, bs, rfl, sq_of hp, q H2 e2⟩
end
theorem kAny4 {K : PySem.W.Frag} {t : String} {c1 c2 c3 c4 : String} (h1 : kitB t c1 = some false) (h2 : kitB t c2 = some false) (h3 : kitB t c3 = some false) (h4 : kitB t c4 = some false) : PySem.W.kitAny K (.type t) [.type c1, .type c2, .type c3, .type c4] = some false :=
  kitAny_cons (kit_ty h1) (fun _ => kitAny_cons (kit_ty h2) (fun _ => kitAny_cons (kit_ty h3) (fun _ => kitAny_cons (kit_ty h4) (fun _ => rfl) (fun z => nomatch z)) (fun z => nomatch z)) (fun z => nomatch z)) (fun z => nomatch z)
theorem kAny2 {K : PySem.W.Frag} {t : String} {c1 c2 : String} (h1 : kitB t c1 = some false) (h2 : kitB t c2 = some false) : PySem.W.kitAny K (.type t) [.type c1, .type c2] = some false :=
  kitAny_cons (kit_ty h1) (fun _ => kitAny_cons (kit_ty h2) (fun _ => rfl) (fun z => nomatch z)) (fun z => nomatch z)
theorem kAnyL {K : PySem.W.Frag} : PySem.W.kitAny K (.type "list") [.type "list", .type "tuple"] = some true := kitAny_cons (b := true) (kit_ty (by decide +kernel)) (fun z => nomatch z) (fun _ => rfl)
theorem kAnyT {K : PySem.W.Frag} : PySem.W.kitAny K (.type "tuple") [.type "list", .type "tuple"] = some true := kitAny_cons (b := false) (kit_ty (by decide +kernel)) (fun _ => kitAny_cons (b := true) (kit_ty (by decide +kernel)) (fun z => nomatch z) (fun _ => rfl)) (fun z => nomatch z)
theorem pairT2 {c1 c2 : String} : Paired ClsV [V.ty c1, V.ty c2] [Value.type c1, Value.type c2] := .cons (.ty _) (.cons (.ty _) .nil)
theorem pairT4 {c1 c2 c3 c4 : String} : Paired ClsV [V.ty c1, V.ty c2, V.ty c3, V.ty c4] [Value.type c1, Value.type c2, Value.type c3, Value.type c4] := .cons (.ty _) (.cons (.ty _) (.cons (.ty _) (.cons (.ty _) .nil)))
section
variable {P : Program} {w : World} {K : PySem.W.Frag} {mg : Str → Option Value} {base : Heap} {f : Addr} {fd : FuncData}
def spSame (d : Nat) : Sp := fun vs H Q _ => ∃ x y, vs = [x, y] ∧ SameV H d x y ∧ ∀ H', Same H H' → Q (.bl true) H'
abbrev s_same : Stmt := top 22
theorem sc_same : FnScope ["_law_found", "_law_due_here", "_law_a", "_law_b"] ["_law_found", "_law_due_here"] (defScope s_same) := ⟨rfl, rfl, rfl, by decide +kernel, rfl, by decide +kernel, by decide +kernel⟩
theorem ok_same {d : Nat} (F : Fun K "_law_same" "_law_same" s_same f fd) (T : Blt mg) (D_same : DefOk P w K mg base d "_law_same" f fd ["_law_found", "_law_due_here"] (spSame d)) : FnOk P w K mg base CX0 (d + 1) f fd ["_law_found", "_law_due_here"] (spSame (d + 1)) := by
  refine F.ok sc_same (fun vs H Q E h => ?_) (fun cdv A outer s H vs Q E hr h => ?_)
  · obtain ⟨x, y, rfl, _⟩ := h
    rfl
  · obtain ⟨x, y, rfl, hxy, k⟩ := h
    have D_room : Room d _ := hr
    refine ⟨_, (pss_cons (ps_if (pt_val (pe_callB call_isiT (by rfl) T.b_isinstance (by decide +kernel) (pa_cons (pv 1) (pa_cons (pe_tup (pa_cons (pe_bltn (v := .ty "list") (u := .type "list") (by rfl) T.b_list (by decide +kernel) rfl) (pa_cons (pe_bltn (v := .ty "tuple") (u := .type "tuple") (by rfl) T.b_tuple (by decide +kernel) rfl) pa_nil))) pa_nil)))) (pss_cons (ps_if (PW.pt (pw_or (pt_cmpR op_ne (pe_callB call_isi (by rfl) T.b_isinstance (by decide +kernel) (pa_cons (pv 0) (pa_cons (pe_bltn (v := .ty "list") (u := .type "list") (by rfl) T.b_list (by decide +kernel) rfl) pa_nil))) (pe_callB call_isi (by rfl) T.b_isinstance (by decide +kernel) (pa_cons (pv 1) (pa_cons (pe_bltn (v := .ty "list") (u := .type "list") (by rfl) T.b_list (by decide +kernel) rfl) pa_nil))) (nomark _)) (pw_or1 (pt_cmpR op_ne (pe_callB call_isi (by rfl) T.b_isinstance (by decide +kernel) (pa_cons (pv 0) (pa_cons (pe_bltn (v := .ty "tuple") (u := .type "tuple") (by rfl) T.b_tuple (by decide +kernel) rfl) pa_nil))) (pe_callB call_isi (by rfl) T.b_isinstance (by decide +kernel) (pa_cons (pv 1) (pa_cons (pe_bltn (v := .ty "tuple") (u := .type "tuple") (by rfl) T.b_tuple (by decide +kernel) rfl) pa_nil))) (nomark _))))) (pss_one (ps_ret pe_bl)) pss_nil)
        (pss_one (ps_ret (pe_and (pe_cmpR op_eq (pe_callB call_len_seq (by rfl) T.b_len PySem.boot_len (pa_cons (pv 0) pa_nil)) (pe_callB call_len_seq (by rfl) T.b_len PySem.boot_len (pa_cons (pv 1) pa_nil)) (nomark _)) (pe_one (pe_callB (cr_all rfl) (by rfl) T.b_all (by decide +kernel) (by exact (pa_cons (pe_lc (own := [("_law_a", 2), ("_law_b", 3)]) (g := gTup K 2 (gCons (gName 2) (gCons (gName 3) gNil))) (tt := tYes) (te := (tCall (spSame d) [] E0 (tCons (tVar 2) (tCons (tVar 3) tNil)))) rfl sc_same.nd (pi_zipA rfl T.b_zip (pa_cons (pv 0) (pa_cons (pv 1) pa_nil))) (blkOk_by (own := [("_law_a", 2), ("_law_b", 3)]) (by kernel_rfl)) (fun _ _ _ _ _ => (pg_tup rfl (pgs_cons (pg_name (i := 2) sc_same.nd rfl (by first | exact Or.inl rfl | exact Or.inr rfl)) (pgs_cons (pg_name (i := 3) sc_same.nd rfl (by first | exact Or.inl rfl | exact Or.inr rfl)) pgs_nil)))) (fun _ _ _ _ _ => pts_nil) (fun _ _ _ _ _ => by exact (pe_d D_same D_room (pa_cons (pv 2) (pa_cons (pv 3) pa_nil))))) pa_nil)))))))) pss_nil)
        (pss_cons (ps_if (pt_val (pe_callB call_isi (by rfl) T.b_isinstance (by decide +kernel) (pa_cons (pv 1) (pa_cons (pe_bltn (v := .ty "int") (u := .type "int") (by rfl) T.b_int (by decide +kernel) rfl) pa_nil)))) (pss_one (ps_ret (pe_and (pe_callB call_isi (by rfl) T.b_isinstance (by decide +kernel) (pa_cons (pv 0) (pa_cons (pe_bltn (v := .ty "int") (u := .type "int") (by rfl) T.b_int (by decide +kernel) rfl) pa_nil))) (pe_and (pe_cmpR op_eq (pe_callB call_isi (by rfl) T.b_isinstance (by decide +kernel) (pa_cons (pv 0) (pa_cons (pe_bltn (v := .ty "bool") (u := .type "bool") (by rfl) T.b_bool (by decide +kernel) rfl) pa_nil))) (pe_callB call_isi (by rfl) T.b_isinstance (by decide +kernel) (pa_cons (pv 1) (pa_cons (pe_bltn (v := .ty "bool") (u := .type "bool") (by rfl) T.b_bool (by decide +kernel) rfl) pa_nil))) (nomark _)) (pe_one (pe_cmpR op_eq (pv 0) (pv 1) (nomark _))))))) pss_nil)
        (pss_one (ps_ret (pe_and (pe_cmpR op_isBl (pe_callB call_isiT (by rfl) T.b_isinstance (by decide +kernel) (pa_cons (pv 0) (pa_cons (pe_tup (pa_cons (pe_bltn (v := .ty "bool") (u := .type "bool") (by rfl) T.b_bool (by decide +kernel) rfl) (pa_cons (pe_bltn (v := .ty "int") (u := .type "int") (by rfl) T.b_int (by decide +kernel) rfl) (pa_cons (pe_bltn (v := .ty "list") (u := .type "list") (by rfl) T.b_list (by decide +kernel) rfl) (pa_cons (pe_bltn (v := .ty "tuple") (u := .type "tuple") (by rfl) T.b_tuple (by decide +kernel) rfl) pa_nil))))) pa_nil))) pe_bl (nomark _)) (pe_one (pe_cmpR op_eq (pv 0) (pv 1) (nomark _)))))))), ?_⟩
    have two : ∀ x : V, EvA (tCons (tC (.ty "list")) (tCons (tC (.ty "tuple")) tNil)) [some x, some y, none, none] H [.ty "list", .ty "tuple"] := fun _ => ea_cons ev_c (ea_cons ev_c ea_nil)
    rcases hxy with ⟨i, rfl, rfl⟩ | ⟨i, rfl, rfl⟩ | ⟨i, rfl, rfl⟩ | ⟨rfl, rfl⟩ | ⟨a, b, xs, ys, rfl, rfl, ha, hb, h1, h2, h3⟩ | ⟨a, b, xs, ys, rfl, rfl, ha, hb, h1, h2, h3⟩
    · refine q_when (et_B (ev_isiT (ev_var rfl) (ea_cons ev_c (ea_cons ev_c ea_nil)) (by decide) pairT2 (fun _ _ => .base (.int i)) (kAny2 (by decide +kernel) (by decide +kernel)))) (fun z => nomatch z) fun _ H1 e1 => ?_
      refine q_when (et_B (ev_isi (b := true) (ev_var rfl) (.ty _) (fun _ _ => .base (.int i)) (kit_ty (by decide +kernel)))) (fun _ H2 e2 => ?_) (fun z => nomatch z)
      refine s_ret (ev_is (ev_andV (ev_isi (b := true) (ev_var rfl) (.ty _) (fun _ _ => .base (.int i)) (kit_ty (by decide +kernel))) fun _ => ev_andV (ev_op (ev_isi (b := false) (ev_var rfl) (.ty _) (fun _ _ => .base (.int i)) (kit_ty (by decide +kernel))) (ev_isi (b := false) (ev_var rfl) (.ty _) (fun _ _ => .base (.int i)) (kit_ty (by decide +kernel))) (rv_eq rfl)) fun _ => ev_op (ev_var rfl) (ev_var rfl) (rv_eq rfl)) ?_) fun H3 e3 => k H3 (Ex.trans e1 (Ex.trans e2 e3))
      simp
    · refine q_when (et_B (ev_isiT (ev_var rfl) (ea_cons ev_c (ea_cons ev_c ea_nil)) (by decide) pairT2 (fun _ _ => .base (.bl i)) (kAny2 (by decide +kernel) (by decide +kernel)))) (fun z => nomatch z) fun _ H1 e1 => ?_
      refine q_when (et_B (ev_isi (b := true) (ev_var rfl) (.ty _) (fun _ _ => .base (.bl i)) (kit_ty (by decide +kernel)))) (fun _ H2 e2 => ?_) (fun z => nomatch z)
      refine s_ret (ev_is (ev_andV (ev_isi (b := true) (ev_var rfl) (.ty _) (fun _ _ => .base (.bl i)) (kit_ty (by decide +kernel))) fun _ => ev_andV (ev_op (ev_isi (b := true) (ev_var rfl) (.ty _) (fun _ _ => .base (.bl i)) (kit_ty (by decide +kernel))) (ev_isi (b := true) (ev_var rfl) (.ty _) (fun _ _ => .base (.bl i)) (kit_ty (by decide +kernel))) (rv_eq rfl)) fun _ => ev_op (ev_var rfl) (ev_var rfl) (rv_eq rfl)) ?_) fun H3 e3 => k H3 (Ex.trans e1 (Ex.trans e2 e3))
      simp
    · refine q_when (et_B (ev_isiT (ev_var rfl) (ea_cons ev_c (ea_cons ev_c ea_nil)) (by decide) pairT2 (fun _ _ => .base (.str i)) (kAny2 (by decide +kernel) (by decide +kernel)))) (fun z => nomatch z) fun _ H1 e1 => ?_
      refine q_when (et_B (ev_isi (b := false) (ev_var rfl) (.ty _) (fun _ _ => .base (.str i)) (kit_ty (by decide +kernel)))) (fun z => nomatch z) (fun _ H2 e2 => ?_)
      refine s_ret (ev_is (ev_andV (ev_isB (ev_isiT (ev_var rfl) (ea_cons ev_c (ea_cons ev_c (ea_cons ev_c (ea_cons ev_c ea_nil)))) (by decide) pairT4 (fun _ _ => .base (.str i)) (kAny4 (by decide +kernel) (by decide +kernel) (by decide +kernel) (by decide +kernel))) ev_c) fun _ => ev_op (ev_var rfl) (ev_var rfl) (rv_eq rfl)) ?_) fun H3 e3 => k H3 (Ex.trans e1 (Ex.trans e2 e3))
      simp
    · refine q_when (et_B (ev_isiT (ev_var rfl) (ea_cons ev_c (ea_cons ev_c ea_nil)) (by decide) pairT2 (fun _ _ => .base .non) (kAny2 (by decide +kernel) (by decide +kernel)))) (fun z => nomatch z) fun _ H1 e1 => ?_
      refine q_when (et_B (ev_isi (b := false) (ev_var rfl) (.ty _) (fun _ _ => .base .non) (kit_ty (by decide +kernel)))) (fun z => nomatch z) (fun _ H2 e2 => ?_)
      refine s_ret (ev_is (ev_andV (ev_isB (ev_isiT (ev_var rfl) (ea_cons ev_c (ea_cons ev_c (ea_cons ev_c (ea_cons ev_c ea_nil)))) (by decide) pairT4 (fun _ _ => .base .non) (kAny4 (by decide +kernel) (by decide +kernel) (by decide +kernel) (by decide +kernel))) ev_c) fun _ => ev_op (ev_var rfl) (ev_var rfl) (rv_eq rfl)) ?_) fun H3 e3 => k H3 (Ex.trans e1 (Ex.trans e2 e3))
      simp
    · refine q_when (et_B (ev_isiT (ev_var rfl) (ea_cons ev_c (ea_cons ev_c ea_nil)) (by decide) pairT2 (fun H1 e => .base (.lst (e _ _ hb))) kAnyL)) (fun _ H1 e1 => ?_) (fun z => nomatch z)
      have ha1 := e1 _ _ ha
      have hb1 := e1 _ _ hb
      refine q_when (b := false) (et_is (et_or (et_test (ev_op (ev_isi (b := true) (ev_var rfl) (.ty _) (fun _ e => .base (.lst (e _ _ ha1))) (kit_ty (by decide +kernel))) (ev_isi (b := true) (ev_var rfl) (.ty _) (fun _ e => .base (.lst (e _ _ hb1))) (kit_ty (by decide +kernel))) (rv_ne rfl))) fun _ => et_test (ev_op (ev_isi (b := false) (ev_var rfl) (.ty _) (fun _ e => .base (.lst (e _ _ ha1))) (kit_ty (by decide +kernel))) (ev_isi (b := false) (ev_var rfl) (.ty _) (fun _ e => .base (.lst (e _ _ hb1))) (kit_ty (by decide +kernel))) (rv_ne rfl))) (by simp)) (fun z => nomatch z) fun _ H2 e2 => ?_
      have ha2 := e2 _ _ ha1
      have hb2 := e2 _ _ hb1
      have lc : EvL (tLc (iZipA K (tCons (tVar 0) (tCons (tVar 1) tNil))) (gTup K 2 (gCons (gName 2) (gCons (gName 3) gNil))) tYes (tCall (spSame d) [] E0 (tCons (tVar 2) (tCons (tVar 3) tNil))) [2, 3]) [some (.ref a), some (.ref b), none, none] H2 ((List.range xs.length).map fun _ => V.bl true) :=
        el_lcZ (fun _ => V.bl true) (ev_var rfl) (ev_var rfl) (.inl ⟨ha2, hb2⟩) h1 h2 (fun _ _ => rfl) fun n x y H3 e3 hx hy => ev_call (ea_cons (ev_var rfl) (ea_cons (ev_var rfl) ea_nil)) fun H4 e4 Q q E => ⟨x, y, rfl, (h3 n x y hx hy).ex (Ex.trans e1 (Ex.trans e2 (Ex.trans e3 e4))), fun H5 s5 => q H5 s5⟩
      have hall := ev_all (K := K) (bs := (List.range xs.length).map fun _ => true) (by rw [List.map_map]; exact lc)
      refine s_ret (ev_is (ev_andV (ev_op (ev_lenL (ev_var rfl) ha2) (ev_lenL (ev_var rfl) hb2) (rv_eq rfl)) fun _ => hall) ?_) fun H3 e3 => k H3 (Ex.trans e1 (Ex.trans e2 e3))
      rw [h1]
      simp
    · refine q_when (et_B (ev_isiT (ev_var rfl) (ea_cons ev_c (ea_cons ev_c ea_nil)) (by decide) pairT2 (fun H1 e => .base (.tup (e _ _ hb))) kAnyT)) (fun _ H1 e1 => ?_) (fun z => nomatch z)
      have ha1 := e1 _ _ ha
      have hb1 := e1 _ _ hb
      refine q_when (b := false) (et_is (et_or (et_test (ev_op (ev_isi (b := false) (ev_var rfl) (.ty _) (fun _ e => .base (.tup (e _ _ ha1))) (kit_ty (by decide +kernel))) (ev_isi (b := false) (ev_var rfl) (.ty _) (fun _ e => .base (.tup (e _ _ hb1))) (kit_ty (by decide +kernel))) (rv_ne rfl))) fun _ => et_test (ev_op (ev_isi (b := true) (ev_var rfl) (.ty _) (fun _ e => .base (.tup (e _ _ ha1))) (kit_ty (by decide +kernel))) (ev_isi (b := true) (ev_var rfl) (.ty _) (fun _ e => .base (.tup (e _ _ hb1))) (kit_ty (by decide +kernel))) (rv_ne rfl))) (by simp)) (fun z => nomatch z) fun _ H2 e2 => ?_
      have ha2 := e2 _ _ ha1
      have hb2 := e2 _ _ hb1
      have lc : EvL (tLc (iZipA K (tCons (tVar 0) (tCons (tVar 1) tNil))) (gTup K 2 (gCons (gName 2) (gCons (gName 3) gNil))) tYes (tCall (spSame d) [] E0 (tCons (tVar 2) (tCons (tVar 3) tNil))) [2, 3]) [some (.ref a), some (.ref b), none, none] H2 ((List.range xs.length).map fun _ => V.bl true) :=
        el_lcZ (fun _ => V.bl true) (ev_var rfl) (ev_var rfl) (.inr ⟨ha2, hb2⟩) h1 h2 (fun _ _ => rfl) fun n x y H3 e3 hx hy => ev_call (ea_cons (ev_var rfl) (ea_cons (ev_var rfl) ea_nil)) fun H4 e4 Q q E => ⟨x, y, rfl, (h3 n x y hx hy).ex (Ex.trans e1 (Ex.trans e2 (Ex.trans e3 e4))), fun H5 s5 => q H5 s5⟩
      have hall := ev_all (K := K) (bs := (List.range xs.length).map fun _ => true) (by rw [List.map_map]; exact lc)
      refine s_ret (ev_is (ev_andV (ev_op (ev_lenT (ev_var rfl) ha2) (ev_lenT (ev_var rfl) hb2) (rv_eq rfl)) fun _ => hall) ?_) fun H3 e3 => k H3 (Ex.trans e1 (Ex.trans e2 e3))
      rw [h1]
      simp
end
end Lm

namespace Lm
open PySem L2 Evl
theorem ev_fld {K : PySem.W.Frag} {σ : L2.St} {H : Hp} {te : TE} {a C dx : Addr} {fs : List (Str × V)} {f : Str} {v : V} (h : Ev te σ H (.ref a)) (ha : H a = some (.ins C dx fs)) (cl : Cls K C) (n : NoAttr K C f) (hf : fs.lookup f = some v) : Ev (tFld K te f) σ H v := fun H1 e Q q =>
  h H1 e _ fun H2 e2 => ⟨a, C, dx, fs, v, rfl, Ex.trans e e2 _ _ ha, cl, n, hf, q H2 e2⟩
section
variable {P : Program} {w : World} {K : PySem.W.Frag} {mg : Str → Option Value} {base : Heap} {f : Addr} {fd : FuncData}
def spWkPs (C : Addr) : Sp := fun vs H Q _ => ∃ (a : Addr) (nm : Str) (ws : List Str), vs = [.ref a] ∧ WkAt C H a nm ws ∧ ∀ p H', H p = none → Same H H' → H' p = some (.lst (ws.map V.str)) → Q (.ref p) H'
abbrev s_Work_passages : Stmt := inClass (top 12) 1
theorem sc_Work_passages : FnScope ["self"] ["self"] (defScope s_Work_passages) := ⟨rfl, rfl, rfl, by decide +kernel, rfl, by decide +kernel, by decide +kernel⟩
theorem ok_wk_ps {C : Addr} (F : Fun K "passages" "Work.passages" s_Work_passages f fd) (T : Blt mg) (W : WkTxt K C) : FnOk P w K mg base CX0 1 f fd ["self"] (spWkPs C) := by
  refine F.ok sc_Work_passages (fun vs H Q E h => ?_) (fun cdv A outer s H vs Q E hr h => ?_)
  · obtain ⟨a, nm, ws, rfl, _⟩ := h
    rfl
  · obtain ⟨a, nm, ws, rfl, ⟨dx, t, d, h1, h2, h3⟩, k⟩ := h
    refine ⟨_, (pss_one (ps_ret (pe_callTy call_list_of (by rfl) T.b_list (by decide +kernel) (pa_cons (pe_fld (pv 0) rfl) pa_nil)))), ?_⟩
    refine ⟨_, rfl, a, C, dx, _, _, rfl, h1, W.cl, W.nW, wk_words _ _ _, ?_⟩
    refine ⟨t, _, rfl, .inr (SqT.of h2), fun p np => k p _ np (Same.upd' np) upd_same⟩
/-- x in a work: any object -/
def spWkInA (K : PySem.W.Frag) (C : Addr) : Sp := fun vs H Q _ => ∃ (a : Addr) (x : V) (nm : Str) (ws : List Str), vs = [.ref a, x] ∧ WkAt C H a nm ws ∧ ws.Nodup ∧
  ((∃ z : Str, x = .str z ∧ Q (.bl (decide (z ∈ ws))) H) ∨ ∃ t : String, TyX K H x (.type t) ∧ kitB t "str" = some false ∧ Q (.bl false) H)
theorem ok_wk_inA {C : Addr} (F : Fun K "__contains__" "Work.__contains__" s_Work_contains f fd) (T : Blt mg) (W : WkTxt K C) : FnOk P w K mg base CX0 1 f fd ["self", "x"] (spWkInA K C) := by
  refine F.ok sc_Work_contains (fun vs H Q E h => ?_) (fun cdv A outer s H vs Q E hr h => ?_)
  · obtain ⟨a, x, nm, ws, rfl, _⟩ := h
    rfl
  · obtain ⟨a, x, nm, ws, rfl, ⟨dx, t, d, h1, h2, h3⟩, nd, k⟩ := h
    have hu := hu_of hr
    refine ⟨_, (pss_one (ps_ret (pe_and (pe_callB call_isi (by rfl) T.b_isinstance (by decide +kernel) (pa_cons (pv 1) (pa_cons (pe_bltn (v := .ty "str") (u := .type "str") (by rfl) T.b_str (by decide +kernel) rfl) pa_nil))) (pe_one (pe_cmp (pc_din hu (pv 1) (pe_fld (pv 0) rfl)) rfl))))), ?_⟩
    rcases k with ⟨z, rfl, k⟩ | ⟨t', ty, hk, k⟩
    · refine ⟨_, rfl, _, _, _, _, true, rfl, .ty _, .base (.str z), kit_ty (by decide +kernel), true, rfl, ?_⟩
      refine ⟨_, rfl, _, rfl, a, C, dx, _, _, rfl, h1, W.cl, W.nE, wk_ends _ _ _, d, _, rfl, DGet.k (k := Sum.inr z) h3, ?_⟩
      rw [valV_mem nd]
      exact k
    · exact ⟨_, rfl, x, _, _, _, false, rfl, .ty _, ty, kit_ty hk, false, rfl, k⟩
/-- a == y: any object -/
def spWkEqA (K : PySem.W.Frag) (C : Addr) : Sp := fun vs H Q _ => ∃ (a : Addr) (y : V) (nm : Str) (ws : List Str), vs = [.ref a, y] ∧ WkAt C H a nm ws ∧ (∀ x ∈ ws, isW x = true) ∧
  ((∃ (b : Addr) (nm' : Str) (ws' : List Str), y = .ref b ∧ WkAt C H b nm' ws' ∧ (∀ x ∈ ws', isW x = true) ∧ Q (.bl (decide (nm = nm' ∧ ws = ws'))) H) ∨ ∃ t : Value, TyX K H y t ∧ PySem.W.kitOne K t (.ref C) = some false ∧ Q (.bl false) H)
theorem ok_wk_eqA {C : Addr} (F : Fun K "__eq__" "Work.__eq__" s_Work_eq f fd) (T : Blt mg) (W : WkTxt K C) (T' : WkIsi K mg C) : FnOk P w K mg base CX0 1 f fd ["self", "other"] (spWkEqA K C) := by
  refine F.ok sc_Work_eq (fun vs H Q E h => ?_) (fun cdv A outer s H vs Q E hr h => ?_)
  · obtain ⟨a, y, nm, ws, rfl, _⟩ := h
    rfl
  · obtain ⟨a, y, nm, ws, rfl, ⟨dx, t, d, h1, h2, h3⟩, l1, k⟩ := h
    refine ⟨_, (pss_one (ps_ret (pe_and (pe_callB call_isi (by rfl) T.b_isinstance (by decide +kernel) (pa_cons (pv 1) (pa_cons (pe_glob (v := .ref _) rfl T'.g_Work rfl) pa_nil))) (pe_and (pe_cmpR op_eq (pe_fld (pv 0) rfl) (pe_fld (pv 1) rfl) (nomark _)) (pe_one (pe_cmpR (op_eqD hr.units) (pe_fld (pv 0) rfl) (pe_fld (pv 1) rfl) (nomark _))))))), ?_⟩
    rcases k with ⟨b, nm', ws', rfl, ⟨dy, t', d', g1, g2, g3⟩, l2, k⟩ | ⟨t', ty, hk, k⟩
    · refine ⟨_, rfl, _, _, _, _, true, rfl, .own C, .base (.ins g1 W.cl T'.ha T'.hn T'.htk T'.hm), T'.ko, true, rfl, ?_⟩
      refine ⟨_, rfl, a, C, dx, _, _, rfl, h1, W.cl, W.nN, wk_name _ _ _, _, rfl, b, C, dy, _, _, rfl, g1, W.cl, W.nN, wk_name _ _ _, rfl, _, rfl, ite2 (fun hn => ?_) (fun hn => ?_)⟩
      · have hn : nm = nm' := V.str.inj (of_decide_eq_true hn)
        refine ⟨_, rfl, a, C, dx, _, _, rfl, h1, W.cl, W.nW, wk_words _ _ _, _, rfl, b, C, dy, _, _, rfl, g1, W.cl, W.nW, wk_words _ _ _, _, _, .tup (SqT.of h2) (dpAll_strs ws), .tup (SqT.of g2) (dpAll_strs ws'), shaped_strs ws l1, shaped_strs ws' l2, ?_⟩
        have e : decide (nm = nm' ∧ ws = ws') = decide (ws = ws') := by simp [hn]
        rw [e] at k
        rw [eqv_strs]
        exact k
      · have hn : ¬ nm = nm' := fun z => hn (decide_eq_true (congrArg V.str z))
        have e : decide (nm = nm' ∧ ws = ws') = false := by simp [hn]
        rw [e] at k
        exact k
    · exact ⟨_, rfl, y, _, _, _, false, rfl, .own C, ty, hk, false, rfl, k⟩
def spEdPs (CW CE : Addr) : Sp := fun vs H Q _ => ∃ (e wk : Addr) (nm : Str) (ws : List Str) (S : Nat → Bool), vs = [.ref e] ∧ EdAt CW CE H e wk nm ws S ∧ ∀ p H', H p = none → Same H H' → H' p = some (.lst ((pick ws S).map V.str)) → Q (.ref p) H'
abbrev s_Edition_passages : Stmt := inClass (top 13) 1
theorem sc_Edition_passages : FnScope ["self"] ["self"] (defScope s_Edition_passages) := ⟨rfl, rfl, rfl, by decide +kernel, rfl, by decide +kernel, by decide +kernel⟩
theorem ok_ed_ps {CW CE : Addr} (F : Fun K "passages" "Edition.passages" s_Edition_passages f fd) (T : Blt mg) (W : EdTxt K CE) : FnOk P w K mg base CX0 1 f fd ["self"] (spEdPs CW CE) := by
  refine F.ok sc_Edition_passages (fun vs H Q E h => ?_) (fun cdv A outer s H vs Q E hr h => ?_)
  · obtain ⟨e, wk, nm, ws, S, rfl, _⟩ := h
    rfl
  · obtain ⟨e, wk, nm, ws, S, rfl, ⟨⟨dx, t, u, v, h1, h2, h3, h4⟩, _⟩, k⟩ := h
    refine ⟨_, (pss_one (ps_ret (pe_callTy call_list_of (by rfl) T.b_list (by decide +kernel) (pa_cons (pe_fld (pv 0) rfl) pa_nil)))), ?_⟩
    refine ⟨_, rfl, e, CE, dx, _, _, rfl, h1, W.cl, W.nW, ed_words _ _ _ _, ?_⟩
    refine ⟨t, _, rfl, .inr (SqT.of h2), fun p np => k p _ np (Same.upd' np) upd_same⟩
theorem pick_word {ws : List Str} {S : Nat → Bool} (h : ∀ x ∈ ws, isW x = true) : ∀ x ∈ pick ws S, isW x = true := fun x hx => by
  unfold pick at hx
  obtain ⟨i, hi, e⟩ := List.mem_map.mp hx
  have hi := (idx_mem.mp hi).1
  rw [← e]
  exact h _ (List.mem_of_getElem? (nth_at hi))
/-- e == y: any object -/
def spEdEqA (K : PySem.W.Frag) (CW CE : Addr) : Sp := fun vs H Q _ => ∃ (e wk : Addr) (y : V) (nm : Str) (ws : List Str) (S : Nat → Bool), vs = [.ref e, y] ∧ EdAt CW CE H e wk nm ws S ∧ (∀ x ∈ ws, isW x = true) ∧
  ((∃ (e' wk' : Addr) (nm' : Str) (ws' : List Str) (S' : Nat → Bool), y = .ref e' ∧ EdAt CW CE H e' wk' nm' ws' S' ∧ (∀ x ∈ ws', isW x = true) ∧ Q (.bl (decide ((nm = nm' ∧ ws = ws') ∧ pick ws S = pick ws' S'))) H) ∨ ∃ t : Value, TyX K H y t ∧ PySem.W.kitOne K t (.ref CE) = some false ∧ Q (.bl false) H)
abbrev s_Edition_eq : Stmt := inClass (top 13) 13
theorem sc_Edition_eq : FnScope ["self", "other"] ["self", "other"] (defScope s_Edition_eq) := ⟨rfl, rfl, rfl, by decide +kernel, rfl, by decide +kernel, by decide +kernel⟩
theorem ok_ed_eqA {CW CE fE : Addr} {fdE : FuncData} (F : Fun K "__eq__" "Edition.__eq__" s_Edition_eq f fd) (T : Blt mg) (W : EdTxt K CE) (T' : EdIsi K mg CE) (M_Work_eq : MetOk P w K mg base 1 CW "__eq__" fE fdE ["self", "other"] (spWkEqA K CW)) : FnOk P w K mg base CX0 2 f fd ["self", "other"] (spEdEqA K CW CE) := by
  refine F.ok sc_Edition_eq (fun vs H Q E h => ?_) (fun cdv A outer s H vs Q E hr h => ?_)
  · obtain ⟨e, wk, y, nm, ws, S, rfl, _⟩ := h
    rfl
  · obtain ⟨e, wk, y, nm, ws, S, rfl, ⟨⟨dx, t, u, v, h1, h2, h3, h4⟩, hw⟩, l1, k⟩ := h
    refine ⟨_, (pss_one (ps_ret (pe_and (pe_callB call_isi (by rfl) T.b_isinstance (by decide +kernel) (pa_cons (pv 1) (pa_cons (pe_glob (v := .ref _) rfl T'.g_Edition rfl) pa_nil))) (pe_and (pe_cmpR (M_Work_eq.eq (hr.mono (by decide))) (pe_fld (pv 0) rfl) (pe_fld (pv 1) rfl) (nomark _)) (pe_one (pe_cmpR (op_eqD hr.units) (pe_fld (pv 0) rfl) (pe_fld (pv 1) rfl) (nomark _))))))), ?_⟩
    rcases k with ⟨e', wk', nm', ws', S', rfl, ⟨⟨dy, t', u', v', g1, g2, g3, g4⟩, hw'⟩, l2, k⟩ | ⟨t', ty, hk, k⟩
    · obtain ⟨d1, x1, x2, o1, o2, o3⟩ := id hw.ob
      obtain ⟨d2, y1, y2, q1, q2, q3⟩ := id hw'.ob
      refine ⟨_, rfl, _, _, _, _, true, rfl, .own CE, .base (.ins g1 W.cl T'.ha T'.hn T'.htk T'.hm), T'.ko, true, rfl, ?_⟩
      refine ⟨_, rfl, e, CE, dx, _, _, rfl, h1, W.cl, W.nK, ed_work _ _ _ _, _, rfl, e', CE, dy, _, _, rfl, g1, W.cl, W.nK, ed_work _ _ _ _, ?_⟩
      refine ⟨wk, d1, _, wk', d2, _, rfl, rfl, o1, q1, wk, _, nm, ws, rfl, hw, l1, .inl ⟨wk', nm', ws', rfl, hw', l2, ?_⟩⟩
      refine ⟨_, rfl, ite2 (fun hn => ?_) (fun hn => ?_)⟩
      · have hn := of_decide_eq_true hn
        refine ⟨_, rfl, e, CE, dx, _, _, rfl, h1, W.cl, W.nW, ed_words _ _ _ _, _, rfl, e', CE, dy, _, _, rfl, g1, W.cl, W.nW, ed_words _ _ _ _, _, _, .tup (SqT.of h2) (dpAll_strs _), .tup (SqT.of g2) (dpAll_strs _), shaped_strs _ (pick_word l1), shaped_strs _ (pick_word l2), ?_⟩
        have e2 : decide ((nm = nm' ∧ ws = ws') ∧ pick ws S = pick ws' S') = decide (pick ws S = pick ws' S') := by simp [hn]
        rw [e2] at k
        rw [eqv_strs]
        exact k
      · have hn : ¬ (nm = nm' ∧ ws = ws') := fun z => hn (decide_eq_true z)
        have e2 : decide ((nm = nm' ∧ ws = ws') ∧ pick ws S = pick ws' S') = false := decide_eq_false fun z => hn z.1
        rw [e2] at k
        exact k
    · exact ⟨_, rfl, y, _, _, _, false, rfl, .own CE, ty, hk, false, rfl, k⟩
end
end Lm

namespace Lm
open PySem L2 Evl
/-! ### cuts of lists -/
theorem cutV_from (xs : List V) (k : Nat) : cutV xs (some (k : Int)) none = xs.drop k := by
  unfold cutV
  rw [HT.sIx_nat, HT.sIx_none]
  rcases Nat.le_total k xs.length with h | h
  · rw [Nat.min_eq_left h]
    exact List.take_of_length_le (by rw [List.length_drop]; omega)
  · rw [Nat.min_eq_right h, List.drop_of_length_le (Nat.le_refl _), List.drop_of_length_le h]
    simp
theorem cutV_to (xs : List V) (k : Nat) : cutV xs none (some (k : Int)) = xs.take k := by
  unfold cutV
  rw [HT.sIx_nat, HT.sIx_none, List.drop_zero, Nat.sub_zero]
  rcases Nat.le_total k xs.length with h | h
  · rw [Nat.min_eq_left h]
  · rw [Nat.min_eq_right h, List.take_of_length_le (Nat.le_refl _), List.take_of_length_le h]
theorem cutV_last (xs : List V) : cutV xs none (some (-1)) = xs.dropLast := by
  unfold cutV
  rw [HT.sIx_none, List.drop_zero, Nat.sub_zero]
  have : HT.sIx xs.length xs.length (some (-1)) = xs.length - 1 := by
    show (if (-1 : Int) < 0 then ((-1 : Int) + (xs.length : Int)).toNat else min (-1 : Int).toNat xs.length) = _
    rw [if_pos (by decide)]
    omega
  rw [this, List.dropLast_eq_take]
section
variable {K : PySem.W.Frag} {σ : L2.St} {H : Hp} {ta tb : TE}
theorem el_cat {xs ys : List V} (ha : EvL ta σ H xs) (hb : EvL tb σ H ys) (hl : xs.length + ys.length ≤ 100000) : EvL (tOp rCat ta tb) σ H (xs ++ ys) := fun H1 e Q q => ha H1 e _ fun p H2 np e2 hp => hb H2 (Ex.trans e e2) _ fun p' H3 np' e3 hp' =>
  ⟨p, p', xs, ys, rfl, rfl, e3 _ _ hp, hp', sz_of hl, fun r nr => q r _ (fresh_back (Ex.trans e2 e3) nr) ((e2.trans e3).trans (Ex.new nr)) upd_same⟩
theorem el_var {p : Addr} {xs : List V} {i : Nat} : True := trivial
theorem el_catV {p : Addr} {xs ys : List V} (ha : Ev ta σ H (.ref p)) (hp : H p = some (.lst xs)) (hb : EvL tb σ H ys) (hl : xs.length + ys.length ≤ 100000) : EvL (tOp rCat ta tb) σ H (xs ++ ys) := fun H1 e Q q => ha H1 e _ fun H2 e2 => hb H2 (Ex.trans e e2) _ fun p' H3 np' e3 hp' =>
  ⟨p, p', xs, ys, rfl, rfl, Ex.trans e (Ex.trans e2 e3) _ _ hp, hp', sz_of hl, fun r nr => q r _ (fresh_back (Ex.trans e2 e3) nr) ((e2.trans e3).trans (Ex.new nr)) upd_same⟩
theorem el_rev {p : Addr} {xs : List V} (ha : Ev ta σ H (.ref p)) (hp : H p = some (.lst xs)) : EvL (tRevL K ta) σ H xs.reverse := fun H1 e Q q => ha H1 e _ fun H2 e2 => ⟨p, xs, rfl, sq_of (Ex.trans e e2 _ _ hp), fun r nr => q r _ (fresh_back e2 nr) (e2.trans (Ex.new nr)) upd_same⟩
/-- a new work is told -/
def EvW (C : Addr) (te : TE) (σ : L2.St) (H : Hp) (nm : Str) (ws : List Str) : Prop := ∀ H1, Ex H H1 → ∀ Q : VK, (∀ q H2, H1 q = none → Ex H1 H2 → WkAt C H2 q nm ws → Q (.ref q) H2) → te σ H1 Q
theorem evw_mk {C : Addr} {nm : Str} {ws : List Str} (ha : Ev ta σ H (.str nm)) (hb : EvL tb σ H (ws.map V.str)) (hn : isW nm = true) (hw : WOk ws) : EvW C (tMake C (spWkInit C) [] E0 (tCons ta (tCons tb tNil))) σ H nm ws := fun H1 e Q q =>
  ha H1 e _ fun H2 e2 => hb H2 (Ex.trans e e2) _ fun p H3 np e3 hp => mkWk (R := fun x H' => Q (.ref x) H') hn hw (.inl hp) fun x H' nx s3 k => q x H' (fresh_back (Ex.trans e2 e3) nx) ((e2.trans e3).trans s3) k
theorem evw_mkV {C p : Addr} {nm : Str} {ws : List Str} (ha : Ev ta σ H (.str nm)) (hb : Ev tb σ H (.ref p)) (hp : SeqAt H p (ws.map V.str)) (hn : isW nm = true) (hw : WOk ws) : EvW C (tMake C (spWkInit C) [] E0 (tCons ta (tCons tb tNil))) σ H nm ws := fun H1 e Q q =>
  ha H1 e _ fun H2 e2 => hb H2 (Ex.trans e e2) _ fun H3 e3 => mkWk (R := fun x H' => Q (.ref x) H') hn hw (hp.elim (fun h => .inl (Ex.trans e (Ex.trans e2 e3) _ _ h)) fun h => .inr (Ex.trans e (Ex.trans e2 e3) _ _ h)) fun x H' nx s3 k => q x H' (fresh_back (Ex.trans e2 e3) nx) ((e2.trans e3).trans s3) k
theorem EvW.mono {C : Addr} {te : TE} {H' : Hp} {nm : Str} {ws : List Str} (e : Ex H H') (h : EvW C te σ H nm ws) : EvW C te σ H' nm ws := fun H1 a Q q => h H1 (e.trans a) Q q
end
theorem sq_go {te : TE} {g : TG} {tz : TS} {D : Ends} {σ : L2.St} {H : Hp} (h : te σ H fun v H1 => g v σ H1 (tz D)) : tSeq (tAsg te g) tz D σ H := h
section
variable {σ : L2.St} {H : Hp} {ta tb tc : TE} {Q : VK}
theorem go_lst1 (h : ta σ H fun v1 H1 => 1 ≤ sizeLine ∧ ∀ p, H1 p = none → Q (.ref p) (upd H1 p (.lst [v1]))) : tLst (tCons ta tNil) σ H Q := h
theorem go_lst2 (h : ta σ H fun v1 H1 => tb σ H1 fun v2 H2 => 2 ≤ sizeLine ∧ ∀ p, H2 p = none → Q (.ref p) (upd H2 p (.lst [v1, v2]))) : tLst (tCons ta (tCons tb tNil)) σ H Q := h
theorem go_lst3 (h : ta σ H fun v1 H1 => tb σ H1 fun v2 H2 => tc σ H2 fun v3 H3 => 3 ≤ sizeLine ∧ ∀ p, H3 p = none → Q (.ref p) (upd H3 p (.lst [v1, v2, v3]))) : tLst (tCons ta (tCons tb (tCons tc tNil))) σ H Q := h
theorem go_op {r : R2} (h : ta σ H fun x H1 => tb σ H1 fun y H2 => r x y H2 Q) : tOp r ta tb σ H Q := h
theorem go_var {i : Nat} {v : V} (h1 : σ[i]? = some (some v)) (h : Q v H) : tVar i σ H Q := ⟨v, h1, h⟩
end
/-! ### works from words -/
theorem wok_of {ws : List Str} (nd : ws.Nodup) (wd : ∀ x ∈ ws, isW x = true) (l0 : 0 < ws.length) (l1 : ws.length ≤ 60) : WOk ws := ⟨⟨rfl, nd, wd⟩, l0, l1⟩
theorem nodup_app {α : Type} {xs ys : List α} (h1 : xs.Nodup) (h2 : ys.Nodup) (h : ∀ x ∈ xs, x ∉ ys) : (xs ++ ys).Nodup := List.nodup_append.mpr ⟨h1, h2, fun a ha b hb e => h a ha (e ▸ hb)⟩
theorem wok_sub {ws vs : List Str} {q : Str} (h : WOk ws) (hs : vs.Sublist ws) (hq : q ∉ ws) (iq : isW q = true) (l : vs.length < 60) : WOk (vs ++ [q]) :=
  wok_of (nodup_app (h.ok.nd.sublist hs) (List.nodup_cons.mpr ⟨List.not_mem_nil, List.nodup_nil⟩) fun x hx z => hq (by rw [← List.mem_singleton.mp z]; exact hs.mem hx)) (fun x hx => (List.mem_append.mp hx).elim (fun z => h.ok.wd x (hs.mem z)) fun z => by rw [List.mem_singleton.mp z]; exact iq) (by simp) (by simp; omega)
theorem wok_mid {ws : List Str} {q : Str} {k : Nat} (h : WOk ws) (hk : k < ws.length) (hq : q ∉ ws) (iq : isW q = true) : WOk ((ws.take k ++ [q]) ++ ws.drop (k + 1)) := by
  have s1 := List.take_sublist k ws
  have s2 := List.drop_sublist (k + 1) ws
  refine wok_of (nodup_app (nodup_app (h.ok.nd.sublist s1) (List.nodup_cons.mpr ⟨List.not_mem_nil, List.nodup_nil⟩) fun x hx z => hq (by rw [← List.mem_singleton.mp z]; exact s1.mem hx)) (h.ok.nd.sublist s2) fun x hx hy => ?_) (fun x hx => ?_) (by simp; omega) (by have := h.l1; simp; omega)
  · rcases List.mem_append.mp hx with z | z
    · obtain ⟨i, hi, e1⟩ := List.mem_iff_getElem.mp z
      obtain ⟨j, hj, e2⟩ := List.mem_iff_getElem.mp hy
      rw [List.getElem_take] at e1
      rw [List.getElem_drop] at e2
      have hi' : i < k := by rw [List.length_take] at hi; omega
      have hj' : k + 1 + j < ws.length := by rw [List.length_drop] at hj; omega
      have := nd_ix h.ok.nd (i := i) (j := k + 1 + j) (x := x) (by rw [List.getElem?_eq_getElem (by omega), e1]) (by rw [List.getElem?_eq_getElem hj', e2])
      omega
    · rw [List.mem_singleton.mp z] at hy
      exact hq (s2.mem hy)
  · rcases List.mem_append.mp hx with z | z
    · rcases List.mem_append.mp z with z | z
      · exact h.ok.wd x (s1.mem z)
      · rw [List.mem_singleton.mp z]; exact iq
    · exact h.ok.wd x (s2.mem z)
theorem rev_ne {ws : List Str} (nd : ws.Nodup) (h : 1 < ws.length) : ¬ ws = ws.reverse := fun e => by
  have h1 : ws[0]? = ws.reverse[0]? := by rw [← e]
  rw [List.getElem?_reverse (by omega)] at h1
  have := nd_ix nd (i := 0) (j := ws.length - 1 - 0) (x := ws[0]) (by rw [List.getElem?_eq_getElem (by omega)]) (by rw [← h1, List.getElem?_eq_getElem (by omega)])
  omega
/-- other works than that of nm and ws -/
def OthW (C : Addr) (nm : Str) (ws : List Str) (H : Hp) (a : Addr) : Prop := ∃ nm' ws', WkAt C H a nm' ws' ∧ (∀ x ∈ ws', isW x = true) ∧ ¬ (nm = nm' ∧ ws = ws')
theorem OthW.same {C : Addr} {nm : Str} {ws : List Str} {H H' : Hp} {a : Addr} (h : OthW C nm ws H a) (e : Same H H') : OthW C nm ws H' a := let ⟨n, v, h1, h2, h3⟩ := h; ⟨n, v, h1.same e, h2, h3⟩
theorem OthW.kp {C st : Addr} {nm : Str} {ws : List Str} {H H' : Hp} {a : Addr} {xs : List V} (h : OthW C nm ws H a) (e : Kp st H H') (hs : H st = some (.lst xs)) : OthW C nm ws H' a := let ⟨n, v, h1, h2, h3⟩ := h; ⟨n, v, h1.kp e hs, h2, h3⟩
def rfs (as : List Addr) : List V := as.map V.ref
section
variable {P : Program} {w : World} {K : PySem.W.Frag} {mg : Str → Option Value} {base : Heap} {f : Addr} {fd : FuncData}
def spMany : Sp := fun vs H Q _ => ∃ (st c : Addr), vs = [.ref st] ∧ StAt H st c ∧ ∀ (m : Nat) H', 1 ≤ m → m ≤ 60 → StAt H' st c → Kp st H H' → Q (.int m) H'
abbrev s_many : Stmt := top 25
theorem sc_many : FnScope ["_law_state"] ["_law_state"] (defScope s_many) := ⟨rfl, rfl, rfl, by decide +kernel, rfl, by decide +kernel, by decide +kernel⟩
theorem ok_many {fO : Addr} {fdO : FuncData} (F : Fun K "_law_many" "_law_many" s_many f fd) (D_one : DefOk P w K mg base 3 "_law_one" fO fdO ["_law_state", "_law_things"] (spOneA K)) : FnOk P w K mg base CX0 4 f fd ["_law_state"] spMany := by
  refine F.ok sc_many (fun vs H Q E h => ?_) (fun cdv A outer s H vs Q E hr h => ?_)
  · obtain ⟨st, c, rfl, _⟩ := h
    rfl
  · obtain ⟨st, c, rfl, S, k⟩ := h
    refine ⟨_, (pss_one (ps_ret (pe_d D_one (hr.mono (by decide)) (pa_cons (pv 0) (pa_cons (pe_tup (pa_cons pe_int (pa_cons pe_int (pa_cons pe_int (pa_cons pe_int (pa_cons pe_int (pa_cons pe_int (pa_cons pe_int (pa_cons pe_int (pa_cons pe_int (pa_cons pe_int pa_nil))))))))))) pa_nil))))), ?_⟩
    refine ⟨_, rfl, by show 10 ≤ sizeLine; decide, fun t nt => ?_⟩
    refine ⟨st, c, t, _, rfl, S.same (Same.upd' nt), (S.of_new nt).1, .inr (SqT.of upd_same), by show 0 < 10; decide, by show 10 < _; decide, fun v H2 hv S2 e2 => ?_⟩
    have e3 : Kp st H H2 := (Kp.of (Same.upd' nt)).trans e2
    simp only [List.mem_cons, List.not_mem_nil, or_false] at hv
    rcases hv with rfl | rfl | rfl | rfl | rfl | rfl | rfl | rfl | rfl | rfl
    · exact k 1 H2 (by decide) (by decide) S2 e3
    · exact k 2 H2 (by decide) (by decide) S2 e3
    · exact k 3 H2 (by decide) (by decide) S2 e3
    · exact k 4 H2 (by decide) (by decide) S2 e3
    · exact k 5 H2 (by decide) (by decide) S2 e3
    · exact k 6 H2 (by decide) (by decide) S2 e3
    · exact k 8 H2 (by decide) (by decide) S2 e3
    · exact k 12 H2 (by decide) (by decide) S2 e3
    · exact k 30 H2 (by decide) (by decide) S2 e3
    · exact k 60 H2 (by decide) (by decide) S2 e3
def spHanded : Sp := fun vs H Q _ => ∃ (st c a : Addr) (xs : List V), vs = [.ref st, .ref a] ∧ StAt H st c ∧ a ≠ st ∧ H a = some (.lst xs) ∧ ∀ p H', H p = none → StAt H' st c → Kp st H H' → SeqAt H' p xs → Q (.ref p) H'
/-- all but a list at p stays -/
def KpL (p : Addr) (H H' : Hp) : Prop := ∀ b o, H b = some o → (b = p → ∀ xs, o ≠ .lst xs) → H' b = some o
theorem WkAt.kpl {C p : Addr} {H H' : Hp} {a : Addr} {nm : Str} {ws : List Str} (k : WkAt C H a nm ws) (e : KpL p H H') : WkAt C H' a nm ws := by
  obtain ⟨⟨dx, t, d, h1, h2, h3⟩⟩ := k
  exact ⟨⟨dx, t, d, e _ _ h1 (fun _ _ z => nomatch z), e _ _ h2 (fun _ _ z => nomatch z), e _ _ h3 (fun _ _ z => nomatch z)⟩⟩
theorem EdAt.kpl {CW CE p : Addr} {H H' : Hp} {a wk : Addr} {nm : Str} {ws : List Str} {S : Nat → Bool} (k : EdAt CW CE H a wk nm ws S) (e : KpL p H H') : EdAt CW CE H' a wk nm ws S := by
  obtain ⟨⟨dx, t, u, v, h1, h2, h3, h4⟩, h5⟩ := k
  exact ⟨⟨dx, t, u, v, e _ _ h1 (fun _ _ z => nomatch z), e _ _ h2 (fun _ _ z => nomatch z), e _ _ h3 (fun _ _ z => nomatch z), e _ _ h4 (fun _ _ z => nomatch z)⟩, h5.kpl e⟩
theorem StAt.kpl {H H' : Hp} {st c p : Addr} (S : StAt H st c) (e : KpL p H H') (h1 : p ≠ st) (h2 : p ≠ c) : StAt H' st c := by
  obtain ⟨⟨n, l, b, g1⟩, ⟨ns, g2, g3⟩, ne⟩ := S
  exact ⟨⟨n, l, b, e _ _ g1 (fun z => (h1 z.symm).elim)⟩, ⟨ns, e _ _ g2 (fun z => (h2 z.symm).elim), g3⟩, ne⟩
def spSpoilt : Sp := fun vs H Q _ => ∃ (p : Addr) (xs : List V), vs = [.ref p] ∧ SeqAt H p xs ∧ xs.length ≤ 60 ∧ ∀ H', KpL p H H' → Q .non H'
def spOthers (C : Addr) : Sp := fun vs H Q _ => ∃ (st c r : Addr) (nm : Str) (ws : List Str), vs = [.ref st, .str nm, .ref r] ∧ StAt H st c ∧ r ≠ st ∧ H r = some (.lst (ws.map V.str)) ∧ WOk ws ∧ isW nm = true ∧ nm ≠ "q" ∧ ("q" : Str) ∉ ws ∧
  ∀ p as H', H p = none → StAt H' st c → Kp st H H' → H' p = some (.lst (rfs as)) → as.length ≤ 10 → (∀ a ∈ as, OthW C nm ws H' a) → Q (.ref p) H'
def OthM (C st : Addr) (nm : Str) (ws : List Str) (r : Addr) (H : Hp) (n : Nat) (σ : L2.St) (H' : Hp) : Prop := ∃ l as, σ = [some (.ref st), some (.str nm), some (.ref r), some (.ref l), none] ∧ Same H H' ∧ H l = none ∧ H' l = some (.lst (rfs as)) ∧ as.length ≤ n ∧ ∀ a ∈ as, OthW C nm ws H' a
theorem iq : isW "q" = true := by decide +kernel
end
end Lm

namespace Lm
open PySem L2 Evl
theorem wipe1 (σ : L2.St) (j : Nat) (x : V) : wipe ((wipe σ [j]).set j (some x)) [j] = wipe σ [j] := by
  show ((σ.set j none).set j (some x)).set j none = σ.set j none
  simp
def spLaw (K : PySem.W.Frag) : Sp := fun vs H Q _ => ∃ (a : Addr) (ns : List Int), vs = [.ref a] ∧ SqL K H a (ns.map V.int) ∧ ns.length ≤ 63 ∧ ∀ H', Q (.bl true) H'
theorem nextI {D : Ends} {σ : L2.St} {H : Hp} (h : D.nx σ H) : tNext D σ H := h
theorem allW_q : ∀ x ∈ allW, x ≠ "q" := by decide +kernel
theorem allW_qq : ∀ x ∈ allW, (x ++ ("q" : Str)) ∉ allW := by decide +kernel
theorem allW_e : ("" : Str) ∉ allW := by decide +kernel
theorem allW_A : ("A" : Str) ∉ allW := by decide +kernel
/-- an object that is no word of ws -/
def Strg (K : PySem.W.Frag) (ws : List Str) (H : Hp) (x : V) : Prop := (∃ z : Str, x = .str z ∧ z ∉ ws) ∨ ∃ t : String, (∀ H', Ex H H' → TyX K H' x (.type t)) ∧ kitB t "str" = some false
theorem Strg.ex {K : PySem.W.Frag} {ws : List Str} {H H' : Hp} {x : V} (e : Ex H H') (h : Strg K ws H x) : Strg K ws H' x := h.elim .inl fun ⟨t, h1, h2⟩ => .inr ⟨t, fun H1 e1 => h1 H1 (Ex.trans e e1), h2⟩
/-- what the text says of the classes, for == of unlike things -/
structure EqTxt (K : PySem.W.Frag) (C : Addr) (t : Value) : Prop where
  nf : PySem.W.notFirst K C t = true
  ko : PySem.W.kitOne K t (.ref C) = some false
structure LawTxt (K : PySem.W.Frag) (mg : Str → Option Value) (CW CE : Addr) : Prop extends Blt mg where
  b_any : mg "any" = none
  ne_Work : PySem.W.findIn K (.ref CW) "__ne__" = some (some (.builtin "object.__ne__"))
  ob_Work : PySem.W.subIn K (.ref CW) (.type "object") = some true
  wn : EqTxt K CW (.type "NoneType")
  wi : EqTxt K CW (.type "int")
  ws : EqTxt K CW (.type "str")
  wl : EqTxt K CW (.type "list")
  we : EqTxt K CW (.ref CE)
  ew : EqTxt K CE (.ref CW)
  ww : PySem.W.notFirst K CW (.ref CW) = true
  ee : PySem.W.notFirst K CE (.ref CE) = true
  sn : PySem.W.subIn K (.ref CW) (.type "NoneType") = some false
  si : PySem.W.subIn K (.ref CW) (.type "int") = some false
  ss : PySem.W.subIn K (.ref CW) (.type "str") = some false
  sl : PySem.W.subIn K (.ref CW) (.type "list") = some false
section
variable {K : PySem.W.Frag} {CW CE : Addr} {σ : L2.St} {H : Hp} {ta tb te : TE}
theorem ev_inW {a : Addr} {nm : Str} {ws : List Str} {z : Str} (h1 : Ev ta σ H (.str z)) (h2 : Ev tb σ H (.ref a)) (ha : WkAt CW H a nm ws) (nd : ws.Nodup) : Ev (tOp (rInOwn CW (spWkInA K CW) E0 false) ta tb) σ H (.bl (decide (z ∈ ws))) := fun H1 e Q q =>
  h1 H1 e _ fun H2 e2 => h2 H2 (Ex.trans e e2) _ fun H3 e3 => by
    have k := ha.same (Ex.trans e (Ex.trans e2 e3))
    obtain ⟨dx, t, d, o1, _, _⟩ := id k.ob
    exact ⟨a, dx, _, rfl, o1, a, _, nm, ws, rfl, k, nd, .inl ⟨z, rfl, ⟨_, rfl, q H3 (Ex.trans e2 e3)⟩⟩⟩
theorem ev_inS {a : Addr} {nm : Str} {ws : List Str} {x : V} (h1 : Ev ta σ H x) (h2 : Ev tb σ H (.ref a)) (ha : WkAt CW H a nm ws) (nd : ws.Nodup) (hx : Strg K ws H x) : Ev (tOp (rInOwn CW (spWkInA K CW) E0 false) ta tb) σ H (.bl false) := fun H1 e Q q =>
  h1 H1 e _ fun H2 e2 => h2 H2 (Ex.trans e e2) _ fun H3 e3 => by
    have k := ha.same (Ex.trans e (Ex.trans e2 e3))
    obtain ⟨dx, t, d, o1, _, _⟩ := id k.ob
    rcases hx with ⟨z, rfl, hz⟩ | ⟨t', ty, hk⟩
    · refine ⟨a, dx, _, rfl, o1, a, _, nm, ws, rfl, k, nd, .inl ⟨z, rfl, ⟨_, rfl, ?_⟩⟩⟩
      rw [decide_eq_false hz]
      exact q H3 (Ex.trans e2 e3)
    · exact ⟨a, dx, _, rfl, o1, a, _, nm, ws, rfl, k, nd, .inr ⟨t', ty _ (Ex.trans e (Ex.trans e2 e3)), hk, ⟨_, rfl, q H3 (Ex.trans e2 e3)⟩⟩⟩
/-- any([.. for x in a new list]), false throughout -/
theorem ev_anyF {tl : TE} {j : Nat} {P : List V → Hp → Prop} (hl : ∀ H1, Ex H H1 → ∀ Q : VK, (∀ p H2 xs, H1 p = none → Ex H1 H2 → H2 p = some (.lst xs) → P xs H2 → Q (.ref p) H2) → tl σ H1 Q) (hz : ∀ xs H', P xs H' → xs.length ≤ 40000)
    (he : ∀ xs H', P xs H' → Ex H H' → ∀ x ∈ xs, ∀ H2, Ex H' H2 → Ev te ((wipe σ [j]).set j (some x)) H2 (.bl false)) : Ev (tCB (rAny K) (tCons (tLc (iList K tl) (gName j) tYes te [j]) tNil)) σ H (.bl false) := fun H1 e Q q =>
  hl H1 e _ fun p H2 xs np e2 hp hP => by
    have h : EvL (tLc (iList K (tC (.ref p))) (gName j) tYes te [j]) σ H2 (given xs.length (fun _ => true) fun _ => .bl false) :=
      el_lcL (fun _ => true) (fun _ => .bl false) ev_c (sq_of hp) (hz xs H2 hP) (fun v => wipe1 _ j v) (fun _ _ _ _ _ => fun H3 _ _ q => q H3 (Ex.refl H3)) fun i x H3 e3 hx _ => he xs H2 hP (Ex.trans e e2) x (List.mem_of_getElem? hx) H3 e3
    have h := h H2 (Ex.refl _)
    show tLc (iList K (tC (.ref p))) (gName j) tYes te [j] σ H2 (fun v H3 => rAny K [v] H3 Q)
    refine h _ fun l H3 nl e3 hl3 => ⟨l, List.replicate xs.length false, rfl, sq_of ?_, ?_⟩
    · rw [hl3]
      unfold given
      rw [List.filter_eq_self.mpr fun _ _ => rfl]
      congr 2
      rw [List.map_replicate]
      exact List.eq_replicate_iff.mpr ⟨by simp, fun b hb => by obtain ⟨_, _, e⟩ := List.mem_map.mp hb; exact e.symm⟩
    · have : (List.replicate xs.length false).any id = false := by simp
      rw [this]
      exact q H3 (Ex.trans e2 e3)
/-- == and != of a work and another one or another thing -/
theorem ev_eqWW {a b : Addr} {nm nm' : Str} {ws ws' : List Str} (T : PySem.W.notFirst K CW (.ref CW) = true) (I : TyX K H (.ref b) (.ref CW)) (I' : ∀ H', Ex H H' → TyX K H' (.ref b) (.ref CW)) (h1 : Ev ta σ H (.ref a)) (h2 : Ev tb σ H (.ref b)) (ha : WkAt CW H a nm ws) (hb : WkAt CW H b nm' ws') (l1 : ∀ x ∈ ws, isW x = true) (l2 : ∀ x ∈ ws', isW x = true) :
    Ev (tOp (rEqL K CW (spWkEqA K CW) E0) ta tb) σ H (.bl (decide (nm = nm' ∧ ws = ws'))) := fun H1 e Q q => h1 H1 e _ fun H2 e2 => h2 H2 (Ex.trans e e2) _ fun H3 e3 => by
  have s3 := Ex.trans e (Ex.trans e2 e3)
  obtain ⟨dx, t, d, o1, _, _⟩ := id (ha.same s3).ob
  exact ⟨a, dx, _, _, rfl, o1, I' _ s3, T, a, _, nm, ws, rfl, ha.same s3, l1, .inl ⟨b, nm', ws', rfl, hb.same s3, l2, q H3 (Ex.trans e2 e3)⟩⟩
theorem ev_neWW {a b : Addr} {nm nm' : Str} {ws ws' : List Str} (T : PySem.W.notFirst K CW (.ref CW) = true) (I' : ∀ H', Ex H H' → TyX K H' (.ref b) (.ref CW)) (h1 : Ev ta σ H (.ref a)) (h2 : Ev tb σ H (.ref b)) (ha : WkAt CW H a nm ws) (hb : WkAt CW H b nm' ws') (l1 : ∀ x ∈ ws, isW x = true) (l2 : ∀ x ∈ ws', isW x = true) :
    Ev (tOp (rNeL K CW (spWkEqA K CW) E0) ta tb) σ H (.bl (!decide (nm = nm' ∧ ws = ws'))) := fun H1 e Q q => h1 H1 e _ fun H2 e2 => h2 H2 (Ex.trans e e2) _ fun H3 e3 => by
  have s3 := Ex.trans e (Ex.trans e2 e3)
  obtain ⟨dx, t, d, o1, _, _⟩ := id (ha.same s3).ob
  exact ⟨a, dx, _, _, rfl, o1, I' _ s3, T, a, _, nm, ws, rfl, ha.same s3, l1, .inl ⟨b, nm', ws', rfl, hb.same s3, l2, ⟨_, rfl, q H3 (Ex.trans e2 e3)⟩⟩⟩
theorem ev_eqWX {a : Addr} {x : V} {nm : Str} {ws : List Str} {t : Value} (T : EqTxt K CW t) (I' : ∀ H', Ex H H' → TyX K H' x t) (h1 : Ev ta σ H (.ref a)) (h2 : Ev tb σ H x) (ha : WkAt CW H a nm ws) (l1 : ∀ x ∈ ws, isW x = true) :
    Ev (tOp (rEqL K CW (spWkEqA K CW) E0) ta tb) σ H (.bl false) := fun H1 e Q q => h1 H1 e _ fun H2 e2 => h2 H2 (Ex.trans e e2) _ fun H3 e3 => by
  have s3 := Ex.trans e (Ex.trans e2 e3)
  obtain ⟨dx, t', d, o1, _, _⟩ := id (ha.same s3).ob
  exact ⟨a, dx, _, _, rfl, o1, I' _ s3, T.nf, a, _, nm, ws, rfl, ha.same s3, l1, .inr ⟨t, I' _ s3, T.ko, q H3 (Ex.trans e2 e3)⟩⟩
theorem ev_neWX {a : Addr} {x : V} {nm : Str} {ws : List Str} {t : Value} (T : EqTxt K CW t) (I' : ∀ H', Ex H H' → TyX K H' x t) (h1 : Ev ta σ H (.ref a)) (h2 : Ev tb σ H x) (ha : WkAt CW H a nm ws) (l1 : ∀ x ∈ ws, isW x = true) :
    Ev (tOp (rNeL K CW (spWkEqA K CW) E0) ta tb) σ H (.bl true) := fun H1 e Q q => h1 H1 e _ fun H2 e2 => h2 H2 (Ex.trans e e2) _ fun H3 e3 => by
  have s3 := Ex.trans e (Ex.trans e2 e3)
  obtain ⟨dx, t', d, o1, _, _⟩ := id (ha.same s3).ob
  exact ⟨a, dx, _, _, rfl, o1, I' _ s3, T.nf, a, _, nm, ws, rfl, ha.same s3, l1, .inr ⟨t, I' _ s3, T.ko, ⟨_, rfl, q H3 (Ex.trans e2 e3)⟩⟩⟩
/-- x == a work, x another work, an edition, or a built-in value -/
def rEqM (K : PySem.W.Frag) (CW CE : Addr) : R2 := fun x y H Q => rEqL K CW (spWkEqA K CW) E0 x y H Q ∨ rEqL K CE (spEdEqA K CW CE) E0 x y H Q ∨ rEqR K CW (spWkEqA K CW) E0 x y H Q
theorem ev_eqMW {a b : Addr} {nm nm' : Str} {ws ws' : List Str} (T : PySem.W.notFirst K CW (.ref CW) = true) (I' : ∀ H', Ex H H' → TyX K H' (.ref a) (.ref CW)) (h1 : Ev ta σ H (.ref b)) (h2 : Ev tb σ H (.ref a)) (ha : WkAt CW H a nm ws) (hb : WkAt CW H b nm' ws') (l1 : ∀ x ∈ ws, isW x = true) (l2 : ∀ x ∈ ws', isW x = true) (hn : ¬ (nm = nm' ∧ ws = ws')) :
    Ev (tOp (rEqM K CW CE) ta tb) σ H (.bl false) := fun H1 e Q q => h1 H1 e _ fun H2 e2 => h2 H2 (Ex.trans e e2) _ fun H3 e3 => by
  have s3 := Ex.trans e (Ex.trans e2 e3)
  obtain ⟨dx, t', d, o1, _, _⟩ := id (hb.same s3).ob
  refine .inl ⟨b, dx, _, _, rfl, o1, I' _ s3, T, b, _, nm', ws', rfl, hb.same s3, l2, .inl ⟨a, nm, ws, rfl, ha.same s3, l1, ?_⟩⟩
  rw [decide_eq_false fun z => hn ⟨z.1.symm, z.2.symm⟩]
  exact q H3 (Ex.trans e2 e3)
theorem ev_eqME {a b wk : Addr} {nm' : Str} {ws' : List Str} {S : Nat → Bool} (T : EqTxt K CE (.ref CW)) (I' : ∀ H', Ex H H' → TyX K H' (.ref a) (.ref CW)) (h1 : Ev ta σ H (.ref b)) (h2 : Ev tb σ H (.ref a)) (hb : EdAt CW CE H b wk nm' ws' S) (l2 : ∀ x ∈ ws', isW x = true) :
    Ev (tOp (rEqM K CW CE) ta tb) σ H (.bl false) := fun H1 e Q q => h1 H1 e _ fun H2 e2 => h2 H2 (Ex.trans e e2) _ fun H3 e3 => by
  have s3 := Ex.trans e (Ex.trans e2 e3)
  obtain ⟨dx, t', u, v, o1, _⟩ := id (hb.same s3).ob
  exact .inr (.inl ⟨b, dx, _, _, rfl, o1, I' _ s3, T.nf, b, wk, _, nm', ws', S, rfl, hb.same s3, l2, .inr ⟨_, I' _ s3, T.ko, q H3 (Ex.trans e2 e3)⟩⟩)
theorem ev_eqMX {a : Addr} {x : V} {nm : Str} {ws : List Str} {t : String} (T : EqTxt K CW (.type t)) (hs : PySem.W.subIn K (.ref CW) (.type t) = some false) (I : ∀ H', Ex H H' → TyE H' x t) (I' : ∀ H', Ex H H' → TyX K H' x (.type t)) (h1 : Ev ta σ H x) (h2 : Ev tb σ H (.ref a)) (ha : WkAt CW H a nm ws) (l1 : ∀ x ∈ ws, isW x = true) :
    Ev (tOp (rEqM K CW CE) ta tb) σ H (.bl false) := fun H1 e Q q => h1 H1 e _ fun H2 e2 => h2 H2 (Ex.trans e e2) _ fun H3 e3 => by
  have s3 := Ex.trans e (Ex.trans e2 e3)
  obtain ⟨dx, t', d, o1, _, _⟩ := id (ha.same s3).ob
  exact .inr (.inr ⟨a, dx, _, t, rfl, o1, I _ s3, hs, a, _, nm, ws, rfl, ha.same s3, l1, .inr ⟨_, I' _ s3, T.ko, q H3 (Ex.trans e2 e3)⟩⟩)
theorem ev_eqEE {e1 wk wk' : Addr} {nm nm' : Str} {ws ws' : List Str} {S S' : Nat → Bool} (T : PySem.W.notFirst K CE (.ref CE) = true) (I' : ∀ H' b wk nm ws S, EdAt CW CE H' b wk nm ws S → TyX K H' (.ref b) (.ref CE)) (h1 : Ev ta σ H (.ref e1)) (ha : EdAt CW CE H e1 wk nm ws S) (l1 : ∀ x ∈ ws, isW x = true) (l2 : ∀ x ∈ ws', isW x = true)
    (h2 : ∀ H1, Ex H H1 → ∀ Q : VK, (∀ q H2, H1 q = none → Ex H1 H2 → EdAt CW CE H2 q wk' nm' ws' S' → Q (.ref q) H2) → tb σ H1 Q) : Ev (tOp (rEqL K CE (spEdEqA K CW CE) E0) ta tb) σ H (.bl (decide ((nm = nm' ∧ ws = ws') ∧ pick ws S = pick ws' S'))) := fun H1 e Q q => h1 H1 e _ fun H2 e2 => h2 H2 (Ex.trans e e2) _ fun p H3 np e3 hp => by
  have s3 := Ex.trans e (Ex.trans e2 e3)
  obtain ⟨dx, t', u, v, o1, _⟩ := id (ha.same s3).ob
  exact ⟨e1, dx, _, _, rfl, o1, I' _ _ _ _ _ _ hp, T, e1, wk, _, nm, ws, S, rfl, ha.same s3, l1, .inl ⟨p, wk', nm', ws', S', rfl, hp, l2, q H3 (Ex.trans e2 e3)⟩⟩
end
end Lm

namespace Lm
open PySem L2 Evl RZ
def rTupOf (K : PySem.W.Frag) : List V → Hp → VK → Prop := fun xs H Q => ∃ p ys, xs = [.ref p] ∧ ((SqL K H p ys ∧ ∀ l, H l = none → Q (.ref l) (upd H l (.tup ys))) ∨ (SqT K H p ys ∧ Q (.ref p) H))
theorem tyW {K : PySem.W.Frag} {mg : Str → Option Value} {CW : Addr} (W : WkTxt K CW) (T' : WkIsi K mg CW) {H : Hp} {a : Addr} {nm : Str} {ws : List Str} (h : WkAt CW H a nm ws) : TyX K H (.ref a) (.ref CW) := by
  obtain ⟨dx, t, d, h1, _, _⟩ := h.ob
  exact .base (.ins h1 W.cl T'.ha T'.hn T'.htk T'.hm)
theorem tyE {K : PySem.W.Frag} {mg : Str → Option Value} {CW CE : Addr} (W : EdTxt K CE) (T' : EdIsi K mg CE) {H : Hp} {a wk : Addr} {nm : Str} {ws : List Str} {S : Nat → Bool} (h : EdAt CW CE H a wk nm ws S) : TyX K H (.ref a) (.ref CE) := by
  obtain ⟨dx, t, u, v, h1, _⟩ := h.ob
  exact .base (.ins h1 W.cl T'.ha T'.hn T'.htk T'.hm)
theorem cnt_all (ws : List Str) : cnt (fun _ => true) ws.length = ws.length := by rw [← pick_len, pick_all]
section
variable {K : PySem.W.Frag} {CW CE : Addr} {σ : L2.St} {H : Hp} {ta tb te : TE}
theorem ev_wklen {a : Addr} {nm : Str} {ws : List Str} (h : Ev ta σ H (.ref a)) (ha : WkAt CW H a nm ws) (hw : WOk ws) : Ev (tCB (rLenOwn CW (spWkLen CW) E0) (tCons ta tNil)) σ H (.int ws.length) := fun H1 e1 Q k => h H1 e1 _ fun H2 e2 => by
  have k2 := ha.same (Ex.trans e1 e2)
  obtain ⟨dx, t, d, o1, _, _⟩ := id k2.ob
  exact ⟨a, dx, _, rfl, o1, a, nm, ws, rfl, k2, ws.length, rfl, by have := hw.l1; omega, k H2 e2⟩
theorem ev_edlen {e wk : Addr} {nm : Str} {ws : List Str} {S : Nat → Bool} (h : Ev ta σ H (.ref e)) (he : EdAt CW CE H e wk nm ws S) (hw : WOk ws) : Ev (tCB (rLenOwn CE (spEdLen CW CE) E0) (tCons ta tNil)) σ H (.int (cnt S ws.length : Nat)) := fun H1 e1 Q k => h H1 e1 _ fun H2 e2 => by
  have he2 := he.same (Ex.trans e1 e2)
  obtain ⟨de, t, u, v, o1, _⟩ := id he2.ob
  refine ⟨e, de, _, rfl, o1, e, wk, nm, ws, S, rfl, he2, cnt S ws.length, rfl, ?_, k H2 e2⟩
  have h1 := idx_len ws.length S
  have h2 := hw.l1
  show (cnt S ws.length) < 2 ^ 62
  unfold cnt
  omega
theorem ev_same {d : Nat} {xs ys : List V} (ha : EvL ta σ H xs) (hb : EvL tb σ H ys) (h : ∀ a b H', Ex H H' → H' a = some (.lst xs) → H' b = some (.lst ys) → SameV H' d (.ref a) (.ref b)) : Ev (tCall (spSame d) [] E0 (tCons ta (tCons tb tNil))) σ H (.bl true) := fun H1 e Q q =>
  ha H1 e _ fun p H2 np e2 hp => hb H2 (Ex.trans e e2) _ fun p' H3 np' e3 hp' => ⟨.ref p, .ref p', rfl, h p p' H3 (Ex.trans e (Ex.trans e2 e3)) (e3 _ _ hp) hp', fun H4 s4 => q H4 (Ex.trans e2 (Ex.trans e3 s4))⟩
/-- all([.. for x in a list]), true throughout -/
theorem ev_allV {tl : TE} {j : Nat} {a : Addr} {xs : List V} (hl : Ev tl σ H (.ref a)) (hx : H a = some (.lst xs)) (hz : xs.length ≤ 40000) (he : ∀ x ∈ xs, ∀ H2, Ex H H2 → Ev te ((wipe σ [j]).set j (some x)) H2 (.bl true)) :
    Ev (tCB (rAll K) (tCons (tLc (iList K tl) (gName j) tYes te [j]) tNil)) σ H (.bl true) := by
  have h : EvL (tLc (iList K tl) (gName j) tYes te [j]) σ H (given xs.length (fun _ => true) fun _ => .bl true) :=
    el_lcL (fun _ => true) (fun _ => .bl true) hl (sq_of hx) hz (fun v => wipe1 _ j v) (fun _ _ _ _ _ => fun H3 _ _ q => q H3 (Ex.refl H3)) fun i x H3 e3 hi _ => he x (List.mem_of_getElem? hi) H3 e3
  have e : given xs.length (fun _ => true) (fun _ => V.bl true) = (List.replicate xs.length true).map V.bl := by
    unfold given
    rw [List.filter_eq_self.mpr fun _ _ => rfl, List.map_replicate]
    exact List.eq_replicate_iff.mpr ⟨by simp, fun b hb => by obtain ⟨_, _, e⟩ := List.mem_map.mp hb; exact e.symm⟩
  rw [e] at h
  refine ev_is (ev_all h) ?_
  simp
end
end Lm

namespace Lm
open PySem L2 Evl RZ
/-! ### parts of a list of words -/
theorem range_getD (ws : List Str) : (List.range ws.length).map (fun i => ws.getD i no) = ws := by
  have := pick_all ws
  unfold pick idx at this
  rw [List.filter_eq_self.mpr fun _ _ => rfl] at this
  exact this
theorem pick_filter (ws : List Str) (f : Str → Bool) : pick ws (fun i => f (ws.getD i no)) = ws.filter f := by
  have h := List.filter_map (f := fun i => ws.getD i no) (p := f) (l := List.range ws.length)
  rw [range_getD] at h
  rw [h]
  rfl
theorem filt_sub {α : Type} [DecidableEq α] : ∀ {vs ws : List α}, vs.Sublist ws → ws.Nodup → ws.filter (fun x => decide (x ∈ vs)) = vs
  | _, _, .slnil, _ => rfl
  | vs, _, .cons (l₂ := ws) a h, nd => by
    have hn := List.nodup_cons.mp nd
    rw [List.filter_cons_of_neg (by simpa using fun z => hn.1 (h.mem z))]
    exact filt_sub h hn.2
  | _, _, .cons₂ (l₁ := vs) (l₂ := ws) a h, nd => by
    have hn := List.nodup_cons.mp nd
    rw [List.filter_cons_of_pos (by simp)]
    have ih := filt_sub h hn.2
    congr 1
    refine Eq.trans (List.filter_congr fun x hx => ?_) ih
    have : x ≠ a := fun z => hn.1 (z ▸ hx)
    simp [this]
theorem pick_of {ws vs : List Str} (h : vs.Sublist ws) (nd : ws.Nodup) : pick ws (fun i => decide (ws.getD i no ∈ vs)) = vs := by
  rw [pick_filter ws fun x => decide (x ∈ vs), filt_sub h nd]
theorem pick_sub (ws : List Str) (S : Nat → Bool) : (pick ws S).Sublist ws := by
  have h : ((List.range ws.length).filter S).Sublist (List.range ws.length) := List.filter_sublist
  have := h.map fun i => ws.getD i no
  rw [range_getD] at this
  exact this
theorem map_getD {α : Type} (l : List Nat) (f : Nat → α) : (List.range l.length).map (fun i => f (l.getD i 0)) = l.map f := by
  refine List.ext_getElem? fun i => ?_
  rw [List.getElem?_map, List.getElem?_map]
  rcases Nat.lt_or_ge i l.length with h | h
  · rw [List.getElem?_range h, List.getElem?_eq_getElem h]
    simp [List.getD_eq_getElem?_getD, List.getElem?_eq_getElem h]
  · rw [List.getElem?_eq_none (by simpa using h), List.getElem?_eq_none h]
    rfl
section
variable {P : Program} {w : World} {K : PySem.W.Frag} {mg : Str → Option Value} {base : Heap} {f : Addr} {fd : FuncData}
/-- x in an edition: any object -/
def spEdInA (K : PySem.W.Frag) (CW CE : Addr) : Sp := fun vs H Q _ => ∃ (a wk : Addr) (x : V) (nm : Str) (ws : List Str) (S : Nat → Bool), vs = [.ref a, x] ∧ EdAt CW CE H a wk nm ws S ∧
  ((∃ z : Str, x = .str z ∧ Q (.bl (decide (z ∈ pick ws S))) H) ∨ ∃ t : String, TyX K H x (.type t) ∧ kitB t "str" = some false ∧ Q (.bl false) H)
theorem ok_ed_inA {CW CE : Addr} (F : Fun K "__contains__" "Edition.__contains__" s_Edition_contains f fd) (T : Blt mg) (W : EdTxt K CE) : FnOk P w K mg base CX0 1 f fd ["self", "x"] (spEdInA K CW CE) := by
  refine F.ok sc_Edition_contains (fun vs H Q E h => ?_) (fun cdv A outer s H vs Q E hr h => ?_)
  · obtain ⟨a, wk, x, nm, ws, S, rfl, _⟩ := h
    rfl
  · obtain ⟨a, wk, x, nm, ws, S, rfl, ⟨⟨dx, t, u, v, h1, h2, h3, h4⟩, _⟩, k⟩ := h
    refine ⟨_, (pss_one (ps_ret (pe_and (pe_callB call_isi (by rfl) T.b_isinstance (by decide +kernel) (pa_cons (pv 1) (pa_cons (pe_bltn (v := .ty "str") (u := .type "str") (by rfl) T.b_str (by decide +kernel) rfl) pa_nil))) (pe_one (pe_cmpR op_in_seq (pv 1) (pe_fld (pv 0) rfl) (by rfl)))))), ?_⟩
    rcases k with ⟨z, rfl, k⟩ | ⟨t', ty, hk, k⟩
    · refine ⟨_, rfl, _, _, _, _, true, rfl, .ty _, .base (.str z), kit_ty (by decide +kernel), true, rfl, ?_⟩
      refine ⟨_, rfl, _, rfl, a, CE, dx, _, _, rfl, h1, W.cl, W.nW, ed_words _ _ _ _, t, _, rfl, .inr (SqT.of h2), rfl, strs_flat _, ?_⟩
      have e := strs_in (pick ws S) z
      rw [← e] at k
      exact k
    · exact ⟨_, rfl, x, _, _, _, false, rfl, .ty _, ty, kit_ty hk, false, rfl, k⟩
end
section
variable {K : PySem.W.Frag} {CW CE : Addr} {σ : L2.St} {H : Hp} {ta tb te : TE}
theorem ev_inE {a wk : Addr} {nm : Str} {ws : List Str} {S : Nat → Bool} {z : Str} (h1 : Ev ta σ H (.str z)) (h2 : Ev tb σ H (.ref a)) (ha : EdAt CW CE H a wk nm ws S) : Ev (tOp (rInOwn CE (spEdInA K CW CE) E0 false) ta tb) σ H (.bl (decide (z ∈ pick ws S))) := fun H1 e Q q =>
  h1 H1 e _ fun H2 e2 => h2 H2 (Ex.trans e e2) _ fun H3 e3 => by
    have k := ha.same (Ex.trans e (Ex.trans e2 e3))
    obtain ⟨dx, t, u, v, o1, _⟩ := id k.ob
    exact ⟨a, dx, _, rfl, o1, a, wk, _, nm, ws, S, rfl, k, .inl ⟨z, rfl, ⟨_, rfl, q H3 (Ex.trans e2 e3)⟩⟩⟩
theorem ev_inES {a wk : Addr} {nm : Str} {ws : List Str} {S : Nat → Bool} {x : V} (h1 : Ev ta σ H x) (h2 : Ev tb σ H (.ref a)) (ha : EdAt CW CE H a wk nm ws S) (hx : Strg K (pick ws S) H x) : Ev (tOp (rInOwn CE (spEdInA K CW CE) E0 false) ta tb) σ H (.bl false) := fun H1 e Q q =>
  h1 H1 e _ fun H2 e2 => h2 H2 (Ex.trans e e2) _ fun H3 e3 => by
    have k := ha.same (Ex.trans e (Ex.trans e2 e3))
    obtain ⟨dx, t, u, v, o1, _⟩ := id k.ob
    rcases hx with ⟨z, rfl, hz⟩ | ⟨t', ty, hk⟩
    · refine ⟨a, dx, _, rfl, o1, a, wk, _, nm, ws, S, rfl, k, .inl ⟨z, rfl, ⟨_, rfl, ?_⟩⟩⟩
      rw [decide_eq_false hz]
      exact q H3 (Ex.trans e2 e3)
    · exact ⟨a, dx, _, rfl, o1, a, wk, _, nm, ws, S, rfl, k, .inr ⟨t', ty _ (Ex.trans e (Ex.trans e2 e3)), hk, ⟨_, rfl, q H3 (Ex.trans e2 e3)⟩⟩⟩
theorem ev_anyV {tl : TE} {j : Nat} {a : Addr} {xs : List V} (hl : Ev tl σ H (.ref a)) (hx : H a = some (.lst xs)) (hz : xs.length ≤ 40000) (he : ∀ x ∈ xs, ∀ H2, Ex H H2 → Ev te ((wipe σ [j]).set j (some x)) H2 (.bl false)) :
    Ev (tCB (rAny K) (tCons (tLc (iList K tl) (gName j) tYes te [j]) tNil)) σ H (.bl false) := by
  have h : EvL (tLc (iList K tl) (gName j) tYes te [j]) σ H (given xs.length (fun _ => true) fun _ => .bl false) :=
    el_lcL (fun _ => true) (fun _ => .bl false) hl (sq_of hx) hz (fun v => wipe1 _ j v) (fun _ _ _ _ _ => fun H3 _ _ q => q H3 (Ex.refl H3)) fun i x H3 e3 hi _ => he x (List.mem_of_getElem? hi) H3 e3
  have e : given xs.length (fun _ => true) (fun _ => V.bl false) = (List.replicate xs.length false).map V.bl := by
    unfold given
    rw [List.filter_eq_self.mpr fun _ _ => rfl, List.map_replicate]
    exact List.eq_replicate_iff.mpr ⟨by simp, fun b hb => by obtain ⟨_, _, e⟩ := List.mem_map.mp hb; exact e.symm⟩
  rw [e] at h
  intro H1 e1 Q q
  show tLc (iList K tl) (gName j) tYes te [j] σ H1 (fun v H3 => rAny K [v] H3 Q)
  refine h H1 e1 _ fun p H2 _ e2 hp => ⟨p, _, rfl, sq_of hp, ?_⟩
  have : (List.replicate xs.length false).any id = false := by simp
  rw [this]
  exact q H2 e2
/-- a new edition is told -/
def EvD (CW CE : Addr) (te : TE) (σ : L2.St) (H : Hp) (nm : Str) (ws : List Str) (S : Nat → Bool) : Prop := ∀ H1, Ex H H1 → ∀ Q : VK, (∀ q wk H2, H1 q = none → Ex H1 H2 → EdAt CW CE H2 q wk nm ws S → Q (.ref q) H2) → te σ H1 Q
theorem evd_mk {wk p : Addr} {nm : Str} {ws : List Str} {S : Nat → Bool} (ha : Ev ta σ H (.ref wk)) (hb : Ev tb σ H (.ref p)) (hk : WkAt CW H wk nm ws) (hw : WOk ws) (hp : SeqAt H p ((pick ws S).map V.str)) : EvD CW CE (tMake CE (spEdInit CW CE) [] E0 (tCons ta (tCons tb tNil))) σ H nm ws S := fun H1 e Q q =>
  ha H1 e _ fun H2 e2 => hb H2 (Ex.trans e e2) _ fun H3 e3 => by
    have s3 := Ex.trans e (Ex.trans e2 e3)
    exact mkEd (R := fun x H' => Q (.ref x) H') (hk.same s3) hw (hp.elim (fun h => .inl (s3 _ _ h)) fun h => .inr (s3 _ _ h)) fun x H' nx s k => q x wk H' (fresh_back (Ex.trans e2 e3) nx) (Ex.trans e2 (Ex.trans e3 s)) k
theorem evd_mkL {wk : Addr} {nm : Str} {ws : List Str} {S : Nat → Bool} (ha : Ev ta σ H (.ref wk)) (hb : EvL tb σ H ((pick ws S).map V.str)) (hk : WkAt CW H wk nm ws) (hw : WOk ws) : EvD CW CE (tMake CE (spEdInit CW CE) [] E0 (tCons ta (tCons tb tNil))) σ H nm ws S := fun H1 e Q q =>
  ha H1 e _ fun H2 e2 => hb H2 (Ex.trans e e2) _ fun p H3 np e3 hp => mkEd (R := fun x H' => Q (.ref x) H') (hk.same (Ex.trans e (Ex.trans e2 e3))) hw (.inl hp) fun x H' nx s k => q x wk H' (fresh_back (Ex.trans e2 e3) nx) (Ex.trans e2 (Ex.trans e3 s)) k
theorem evd_mkU {wk : Addr} {nm : Str} {ws : List Str} {S : Nat → Bool} (ha : Ev ta σ H (.ref wk)) (hb : EvU tb σ H ((pick ws S).map V.str)) (hk : WkAt CW H wk nm ws) (hw : WOk ws) : EvD CW CE (tMake CE (spEdInit CW CE) [] E0 (tCons ta (tCons tb tNil))) σ H nm ws S := fun H1 e Q q =>
  ha H1 e _ fun H2 e2 => hb H2 (Ex.trans e e2) _ fun p H3 np e3 hp => mkEd (R := fun x H' => Q (.ref x) H') (hk.same (Ex.trans e (Ex.trans e2 e3))) hw (.inr hp) fun x H' nx s k => q x wk H' (fresh_back (Ex.trans e2 e3) nx) (Ex.trans e2 (Ex.trans e3 s)) k
theorem evd_mkW {p : Addr} {nm : Str} {ws : List Str} {S : Nat → Bool} (ha : EvW CW ta σ H nm ws) (hb : Ev tb σ H (.ref p)) (hw : WOk ws) (hp : SeqAt H p ((pick ws S).map V.str)) : EvD CW CE (tMake CE (spEdInit CW CE) [] E0 (tCons ta (tCons tb tNil))) σ H nm ws S := fun H1 e Q q =>
  ha H1 e _ fun wk H2 nw e2 hk => hb H2 (Ex.trans e e2) _ fun H3 e3 => by
    have s3 := Ex.trans e (Ex.trans e2 e3)
    exact mkEd (R := fun x H' => Q (.ref x) H') (hk.same e3) hw (hp.elim (fun h => .inl (s3 _ _ h)) fun h => .inr (s3 _ _ h)) fun x H' nx s k => q x wk H' (fresh_back (Ex.trans e2 e3) nx) (Ex.trans e2 (Ex.trans e3 s)) k
theorem evd_whole {wk : Addr} {nm : Str} {ws : List Str} (ha : Ev ta σ H (.ref wk)) (hk : WkAt CW H wk nm ws) (hw : WOk ws) : EvD CW CE (tMeth CW "whole" (spWhole CW CE) [] E0 ta tNil) σ H nm ws (fun _ => true) := fun H1 e Q q => ha H1 e _ fun H2 e2 => by
  have k := hk.same (Ex.trans e e2)
  obtain ⟨dq, tq, dq2, oq, _, _⟩ := id k.ob
  exact ⟨wk, dq, _, rfl, oq, wk_no _ _ _ (by decide +kernel) (by decide +kernel) (by decide +kernel), wk, nm, ws, rfl, k, hw, fun p H' np s hp => q p wk H' (fresh_back e2 np) (Ex.trans e2 s) hp⟩
theorem eu_tuple {p : Addr} {xs : List V} (ha : Ev ta σ H (.ref p)) (h : H p = some (.lst xs)) : EvU (tCB (rTupOf K) (tCons ta tNil)) σ H xs := fun H1 e Q q => ha H1 e _ fun H2 e2 => ⟨p, xs, rfl, .inl ⟨sq_of (Ex.trans e e2 _ _ h), fun l nl => q l _ (fresh_back e2 nl) (Ex.trans e2 (Ex.new nl)) upd_same⟩⟩
/-- what an edition is to another one -/
def TyEd (K : PySem.W.Frag) (CW CE : Addr) : Prop := ∀ (H : Hp) (b wk : Addr) (nm : Str) (ws : List Str) (S : Nat → Bool), EdAt CW CE H b wk nm ws S → TyX K H (.ref b) (.ref CE)
theorem ev_eqEN {e1 wk : Addr} {nm nm' : Str} {ws ws' : List Str} {S S' : Nat → Bool} (T : PySem.W.notFirst K CE (.ref CE) = true) (I : TyEd K CW CE) (h1 : Ev ta σ H (.ref e1)) (ha : EdAt CW CE H e1 wk nm ws S) (l1 : ∀ x ∈ ws, isW x = true) (l2 : ∀ x ∈ ws', isW x = true) (h2 : EvD CW CE tb σ H nm' ws' S') :
    Ev (tOp (rEqL K CE (spEdEqA K CW CE) E0) ta tb) σ H (.bl (decide ((nm = nm' ∧ ws = ws') ∧ pick ws S = pick ws' S'))) := fun H1 e Q q => h1 H1 e _ fun H2 e2 => h2 H2 (Ex.trans e e2) _ fun p wk' H3 np e3 hp => by
  have s3 := Ex.trans e (Ex.trans e2 e3)
  obtain ⟨dx, t', u, v, o1, _⟩ := id (ha.same s3).ob
  exact ⟨e1, dx, _, _, rfl, o1, I _ _ _ _ _ _ hp, T, e1, wk, _, nm, ws, S, rfl, ha.same s3, l1, .inl ⟨p, wk', nm', ws', S', rfl, hp, l2, q H3 (Ex.trans e2 e3)⟩⟩
theorem ev_neEN {e1 wk : Addr} {nm nm' : Str} {ws ws' : List Str} {S S' : Nat → Bool} (T : PySem.W.notFirst K CE (.ref CE) = true) (I : TyEd K CW CE) (h1 : Ev ta σ H (.ref e1)) (ha : EdAt CW CE H e1 wk nm ws S) (l1 : ∀ x ∈ ws, isW x = true) (l2 : ∀ x ∈ ws', isW x = true) (h2 : EvD CW CE tb σ H nm' ws' S') :
    Ev (tOp (rNeL K CE (spEdEqA K CW CE) E0) ta tb) σ H (.bl (!decide ((nm = nm' ∧ ws = ws') ∧ pick ws S = pick ws' S'))) := fun H1 e Q q => h1 H1 e _ fun H2 e2 => h2 H2 (Ex.trans e e2) _ fun p wk' H3 np e3 hp => by
  have s3 := Ex.trans e (Ex.trans e2 e3)
  obtain ⟨dx, t', u, v, o1, _⟩ := id (ha.same s3).ob
  exact ⟨e1, dx, _, _, rfl, o1, I _ _ _ _ _ _ hp, T, e1, wk, _, nm, ws, S, rfl, ha.same s3, l1, .inl ⟨p, wk', nm', ws', S', rfl, hp, l2, ⟨_, rfl, q H3 (Ex.trans e2 e3)⟩⟩⟩
theorem evd_var {p wk : Addr} {nm : Str} {ws : List Str} {S : Nat → Bool} : True := trivial
theorem ev_eqE2 {e1 p wk wk' : Addr} {nm nm' : Str} {ws ws' : List Str} {S S' : Nat → Bool} (T : PySem.W.notFirst K CE (.ref CE) = true) (I : TyEd K CW CE) (h1 : Ev ta σ H (.ref e1)) (h2 : Ev tb σ H (.ref p)) (ha : EdAt CW CE H e1 wk nm ws S) (hp : EdAt CW CE H p wk' nm' ws' S') (l1 : ∀ x ∈ ws, isW x = true) (l2 : ∀ x ∈ ws', isW x = true) :
    Ev (tOp (rEqL K CE (spEdEqA K CW CE) E0) ta tb) σ H (.bl (decide ((nm = nm' ∧ ws = ws') ∧ pick ws S = pick ws' S'))) := fun H1 e Q q => h1 H1 e _ fun H2 e2 => h2 H2 (Ex.trans e e2) _ fun H3 e3 => by
  have s3 := Ex.trans e (Ex.trans e2 e3)
  obtain ⟨dx, t', u, v, o1, _⟩ := id (ha.same s3).ob
  exact ⟨e1, dx, _, _, rfl, o1, I _ _ _ _ _ _ (hp.same s3), T, e1, wk, _, nm, ws, S, rfl, ha.same s3, l1, .inl ⟨p, wk', nm', ws', S', rfl, hp.same s3, l2, q H3 (Ex.trans e2 e3)⟩⟩
theorem ev_neE2 {e1 p wk wk' : Addr} {nm nm' : Str} {ws ws' : List Str} {S S' : Nat → Bool} (T : PySem.W.notFirst K CE (.ref CE) = true) (I : TyEd K CW CE) (h1 : Ev ta σ H (.ref e1)) (h2 : Ev tb σ H (.ref p)) (ha : EdAt CW CE H e1 wk nm ws S) (hp : EdAt CW CE H p wk' nm' ws' S') (l1 : ∀ x ∈ ws, isW x = true) (l2 : ∀ x ∈ ws', isW x = true) :
    Ev (tOp (rNeL K CE (spEdEqA K CW CE) E0) ta tb) σ H (.bl (!decide ((nm = nm' ∧ ws = ws') ∧ pick ws S = pick ws' S'))) := fun H1 e Q q => h1 H1 e _ fun H2 e2 => h2 H2 (Ex.trans e e2) _ fun H3 e3 => by
  have s3 := Ex.trans e (Ex.trans e2 e3)
  obtain ⟨dx, t', u, v, o1, _⟩ := id (ha.same s3).ob
  exact ⟨e1, dx, _, _, rfl, o1, I _ _ _ _ _ _ (hp.same s3), T, e1, wk, _, nm, ws, S, rfl, ha.same s3, l1, .inl ⟨p, wk', nm', ws', S', rfl, hp.same s3, l2, ⟨_, rfl, q H3 (Ex.trans e2 e3)⟩⟩⟩
theorem ev_eqEX {a wk : Addr} {x : V} {nm : Str} {ws : List Str} {S : Nat → Bool} {t : Value} (T : EqTxt K CE t) (I' : ∀ H', Ex H H' → TyX K H' x t) (h1 : Ev ta σ H (.ref a)) (h2 : Ev tb σ H x) (ha : EdAt CW CE H a wk nm ws S) (l1 : ∀ x ∈ ws, isW x = true) :
    Ev (tOp (rEqL K CE (spEdEqA K CW CE) E0) ta tb) σ H (.bl false) := fun H1 e Q q => h1 H1 e _ fun H2 e2 => h2 H2 (Ex.trans e e2) _ fun H3 e3 => by
  have s3 := Ex.trans e (Ex.trans e2 e3)
  obtain ⟨dx, t', u, v, o1, _⟩ := id (ha.same s3).ob
  exact ⟨a, dx, _, _, rfl, o1, I' _ s3, T.nf, a, wk, _, nm, ws, S, rfl, ha.same s3, l1, .inr ⟨t, I' _ s3, T.ko, q H3 (Ex.trans e2 e3)⟩⟩
theorem ev_neEX {a wk : Addr} {x : V} {nm : Str} {ws : List Str} {S : Nat → Bool} {t : Value} (T : EqTxt K CE t) (I' : ∀ H', Ex H H' → TyX K H' x t) (h1 : Ev ta σ H (.ref a)) (h2 : Ev tb σ H x) (ha : EdAt CW CE H a wk nm ws S) (l1 : ∀ x ∈ ws, isW x = true) :
    Ev (tOp (rNeL K CE (spEdEqA K CW CE) E0) ta tb) σ H (.bl true) := fun H1 e Q q => h1 H1 e _ fun H2 e2 => h2 H2 (Ex.trans e e2) _ fun H3 e3 => by
  have s3 := Ex.trans e (Ex.trans e2 e3)
  obtain ⟨dx, t', u, v, o1, _⟩ := id (ha.same s3).ob
  exact ⟨a, dx, _, _, rfl, o1, I' _ s3, T.nf, a, wk, _, nm, ws, S, rfl, ha.same s3, l1, .inr ⟨t, I' _ s3, T.ko, ⟨_, rfl, q H3 (Ex.trans e2 e3)⟩⟩⟩
/-- x == an edition, x another one, a work, or a built-in value -/
def rEqN (K : PySem.W.Frag) (CW CE : Addr) : R2 := fun x y H Q => rEqL K CE (spEdEqA K CW CE) E0 x y H Q ∨ rEqL K CW (spWkEqA K CW) E0 x y H Q ∨ rEqR K CE (spEdEqA K CW CE) E0 x y H Q
theorem ev_eqNE {e1 p wk wk' : Addr} {nm nm' : Str} {ws ws' : List Str} {S S' : Nat → Bool} (T : PySem.W.notFirst K CE (.ref CE) = true) (I : TyEd K CW CE) (h1 : Ev ta σ H (.ref e1)) (h2 : Ev tb σ H (.ref p)) (ha : EdAt CW CE H e1 wk nm ws S) (hp : EdAt CW CE H p wk' nm' ws' S') (l1 : ∀ x ∈ ws, isW x = true) (l2 : ∀ x ∈ ws', isW x = true) :
    Ev (tOp (rEqN K CW CE) ta tb) σ H (.bl (decide ((nm = nm' ∧ ws = ws') ∧ pick ws S = pick ws' S'))) := fun H1 e Q q => h1 H1 e _ fun H2 e2 => h2 H2 (Ex.trans e e2) _ fun H3 e3 => by
  have s3 := Ex.trans e (Ex.trans e2 e3)
  obtain ⟨dx, t', u, v, o1, _⟩ := id (ha.same s3).ob
  exact .inl ⟨e1, dx, _, _, rfl, o1, I _ _ _ _ _ _ (hp.same s3), T, e1, wk, _, nm, ws, S, rfl, ha.same s3, l1, .inl ⟨p, wk', nm', ws', S', rfl, hp.same s3, l2, q H3 (Ex.trans e2 e3)⟩⟩
theorem ev_eqNW {a p wk : Addr} {nm nm' : Str} {ws ws' : List Str} {S : Nat → Bool} (T : EqTxt K CW (.ref CE)) (I : TyEd K CW CE) (h1 : Ev ta σ H (.ref a)) (h2 : Ev tb σ H (.ref p)) (ha : WkAt CW H a nm' ws') (hp : EdAt CW CE H p wk nm ws S) (l1 : ∀ x ∈ ws', isW x = true) :
    Ev (tOp (rEqN K CW CE) ta tb) σ H (.bl false) := fun H1 e Q q => h1 H1 e _ fun H2 e2 => h2 H2 (Ex.trans e e2) _ fun H3 e3 => by
  have s3 := Ex.trans e (Ex.trans e2 e3)
  obtain ⟨dx, t', d, o1, _, _⟩ := id (ha.same s3).ob
  have ty := I _ _ _ _ _ _ (hp.same s3)
  exact .inr (.inl ⟨a, dx, _, _, rfl, o1, ty, T.nf, a, _, nm', ws', rfl, ha.same s3, l1, .inr ⟨_, ty, T.ko, q H3 (Ex.trans e2 e3)⟩⟩)
theorem ev_eqNX {p wk : Addr} {x : V} {nm : Str} {ws : List Str} {S : Nat → Bool} {t : String} (T : EqTxt K CE (.type t)) (hs : PySem.W.subIn K (.ref CE) (.type t) = some false) (I : ∀ H', Ex H H' → TyE H' x t) (I' : ∀ H', Ex H H' → TyX K H' x (.type t)) (h1 : Ev ta σ H x) (h2 : Ev tb σ H (.ref p)) (hp : EdAt CW CE H p wk nm ws S) (l1 : ∀ x ∈ ws, isW x = true) :
    Ev (tOp (rEqN K CW CE) ta tb) σ H (.bl false) := fun H1 e Q q => h1 H1 e _ fun H2 e2 => h2 H2 (Ex.trans e e2) _ fun H3 e3 => by
  have s3 := Ex.trans e (Ex.trans e2 e3)
  obtain ⟨dx, t', u, v, o1, _⟩ := id (hp.same s3).ob
  exact .inr (.inr ⟨p, dx, _, t, rfl, o1, I _ s3, hs, p, wk, _, nm, ws, S, rfl, hp.same s3, l1, .inr ⟨_, I' _ s3, T.ko, q H3 (Ex.trans e2 e3)⟩⟩)
end
structure LawTxtE (K : PySem.W.Frag) (mg : Str → Option Value) (CW CE : Addr) : Prop extends Blt mg where
  b_any : mg "any" = none
  ne_Edition : PySem.W.findIn K (.ref CE) "__ne__" = some (some (.builtin "object.__ne__"))
  ob_Edition : PySem.W.subIn K (.ref CE) (.type "object") = some true
  tn : EqTxt K CE (.type "NoneType")
  ti : EqTxt K CE (.type "int")
  tl : EqTxt K CE (.type "list")
  tt : EqTxt K CE (.type "tuple")
  ew : EqTxt K CE (.ref CW)
  we : EqTxt K CW (.ref CE)
  ww : PySem.W.notFirst K CW (.ref CW) = true
  ee : PySem.W.notFirst K CE (.ref CE) = true
  sn : PySem.W.subIn K (.ref CE) (.type "NoneType") = some false
  si : PySem.W.subIn K (.ref CE) (.type "int") = some false
  sl : PySem.W.subIn K (.ref CE) (.type "list") = some false
  st : PySem.W.subIn K (.ref CE) (.type "tuple") = some false
end Lm

namespace Lm
open PySem L2
abbrev s_is_other : Stmt := top 27
theorem sc_is_other : FnScope ["_law_ask", "_law_found"] ["_law_ask"] (defScope s_is_other) := ⟨rfl, rfl, rfl, by decide +kernel, rfl, by decide +kernel, by decide +kernel⟩
/-- try: ask() / except OtherWork -/
def TTother (K : PySem.W.Frag) (CO : Addr) : (XK → Hp → VK → Prop) → Hp → VK → Prop := fun tl H Q => ∀ (E : XK) (R : VK), (∀ cls d H', (∃ b, PySem.W.exmOne K cls (.ref CO) = some b ∧ (b = true → Q (.bl true) H') ∧ (b = false → False)) → E cls d H') → (∀ v H', Q (.bl false) H' → R v H') → tl E H R
theorem isOther_gives {X : Cx} {CO g : Addr} {cdg : Value} {q : Str} (hme : X.mg "OtherWork" = some (.ref CO)) : GivesToS X ["_law_ask", "_law_found"] "_law_is_other" (defScope s_is_other) g cdg (defBody s_is_other) "_law_ask" q (TTother X.K CO) := by
  intro f c' s H Q tl act hc h
  refine ⟨_, pss_cons (ps_set (i := 1) sc_is_other.nd rfl (by first | exact Or.inl rfl | exact Or.inr rfl) pe_bl) (pss_cons (ps_try_only (X := (cxOf C8.CX0 X.prog X.w X.K X.mg X.base ["_law_ask", "_law_found"] "_law_is_other" (defScope s_is_other) g cdg X.A X.stack s H C8.E0).nox) (c := .ref CO)
      (tb := fun W D σ H => σ[0]? = some (some (.ref f)) ∧ H c' = some (LamX.CodeO c' q) ∧ tl (WE W σ) H fun _ H' => D.nx σ H') (ts := fun _ _ _ => tAsg (tC (.bl true)) (gName 1)) (Wout := fun _ _ _ _ => False)
      rfl rfl ⟨rfl, by decide, .inl hme⟩ LamX.takes0 (fun W pn xe tk _ => ?_) (fun a oe cls d pn _ _ => pss_one (ps_set (i := 1) sc_is_other.nd rfl (by first | exact Or.inl rfl | exact Or.inr rfl) pe_bl))) (pss_one (ps_ret (pv 1)))), ?_⟩
  · refine ⟨fun pins s' σ H' D I h' => ?_⟩
    have hq := fun p1 p2 p3 => pss_one (ps_expr (pos := p3) (act W pn xe p1 p2 tk))
    exact (hq _ _ _).run pins s' σ H' D I h'
  exact ⟨rfl, hc, h _ _ (fun cls d H' ⟨b, e1, e2, e3⟩ => ⟨b, e1, fun hb a _ => ⟨_, rfl, e2 hb⟩, fun hb => e3 hb⟩) fun v H' q => ⟨_, rfl, q⟩⟩
/-- _law_is_other(lambda: e) -/
theorem pe_isOther {X : Cx} {CO g c P : Addr} {fdg : FuncData} {k : Nat} {t : XK → TE} {params : Arguments} {body : Expr} {scope : Scope} {p lpos pos : Pos} (Fg : L2.Fun X.K "_law_is_other" "_law_is_other" s_is_other g fdg) (hb : L2.Binds X.K fdg ["_law_ask"] []) (hm : X.mg "_law_is_other" = some (.ref g)) (hO : X.mg "OtherWork" = some (.ref CO))
    (TB : LamX.TabB X.base X.mg c P) (hcode : X.env.code = .ref c) (hr : Room (k + 2) X.A)
    (hbody : ∀ (A : Around) (outer : List Env) (s : Shared) (H : Hp) (E : XK) (f c' : Addr), Room k (A.deeper (LamX.lamEnv X scope s.heap.objs.size f c')) → PE (LamX.lamCx X A outer s H E scope f c') body (t E))
    (L : LamX.LamS X.env.scope scope) (hg : Gl X "_law_is_other" := by rfl) (hdef : defaultsOf params X.env = ([], []) := by rfl)
    (hbind : ∀ (q : Str) (cl : List (Str × Addr)) (pm cv ctv : Value), bindArgs (PySem.W.kla_fn "<lambda>" q params body scope cl pm cv ctv) ⟨[], []⟩ = pure [] := by intros; rfl) :
    PE X (.Call (.Name "_law_is_other" p) [.Lambda params body scope lpos] [] pos) (LamX.tLam [(P, X.env.qual ++ "<lambda>")] (TTother X.K CO) t) := by
  obtain ⟨oc, od, kV, doc, pm, an, cdv, ct, osl, rfl, lk, hcd⟩ := Fg.ex
  exact pe_lamcallS (c := c) (P := P) hg hm Fg.kp lk hcd hb sc_is_other rfl (.inl rfl) (isOther_gives hO) TB hcode (List.mem_singleton.mpr rfl) (fun q hq _ => by rw [List.mem_singleton.mp hq]) hr L hdef hbind hbody
end Lm

namespace Lm
open PySem L2
section
variable {P : Program} {w : World} {K : PySem.W.Frag} {mg : Str → Option Value} {base : Heap} {f : Addr} {fd : FuncData}
/-! ### an edition of another work is refused -/
def spOneX (CW CE CO : Addr) : Sp := fun vs H Q E => ∃ (a b wk wk' : Addr) (nm nm' : Str) (ws ws' : List Str) (S T : Nat → Bool), vs = [.ref a, .ref b] ∧ EdAt CW CE H a wk nm ws S ∧ EdAt CW CE H b wk' nm' ws' T ∧ WOk ws ∧ WOk ws' ∧ ¬ (nm = nm' ∧ ws = ws') ∧ E (.ref CO) none H
theorem ok_onewX {CW CE CO fE : Addr} {fdE : FuncData} (F : Fun K "require_one_work" "require_one_work" s_require_one_work f fd) (W : EdTxt K CE) (T : WkNe K CW) (TO : ErrTxt K mg "OtherWork" CO) (M_Work_eq : MetOk P w K mg base 1 CW "__eq__" fE fdE ["self", "other"] (spWkEq CW)) :
    FnOk P w K mg base (L2.CX P w) 3 f fd ["one", "other"] (spOneX CW CE CO) := by
  refine F.okX sc_require_one_work (fun vs H Q E h => ?_) (fun cdv A outer s H vs Q E hr h => ?_)
  · obtain ⟨a, b, wk, wk', nm, nm', ws, ws', S, U, rfl, _⟩ := h
    rfl
  · obtain ⟨a, b, wk, wk', nm, nm', ws, ws', S, U, rfl, he, hf, hw, hw', hn, k⟩ := h
    obtain ⟨dx, t, u, v, h1, h2, h3, h4⟩ := id he.ob
    obtain ⟨dy, t', u', v', g1, g2, g3, g4⟩ := id hf.ob
    obtain ⟨dw, tw, ew, o1, _, _⟩ := id he.wk.ob
    obtain ⟨dw', tw', ew', o1', _, _⟩ := id hf.wk.ob
    refine ⟨_, (pss_one (ps_if (pt_cmpR (M_Work_eq.ne T.ne_Work T.ob_Work (hr.mono (by decide))) (pe_fld (pv 0) rfl) (pe_fld (pv 1) rfl) (nomark _)) (pss_one (ps_raise rfl (takes_of rfl rfl rfl rfl) (by exact TO.call))) pss_nil)), ?_⟩
    refine ⟨_, rfl, a, CE, dx, _, _, rfl, h1, W.cl, W.nK, ed_work _ _ _ _, _, rfl, b, CE, dy, _, _, rfl, g1, W.cl, W.nK, ed_work _ _ _ _, ?_⟩
    refine ⟨wk, dw, _, wk', dw', _, rfl, rfl, o1, o1', wk, wk', nm, nm', ws, ws', rfl, he.wk, hf.wk, hw.ok.wd, hw'.ok.wd, ?_⟩
    rw [decide_eq_false hn]
    exact ⟨false, rfl, _, rfl, k⟩
end
end Lm

namespace Lm
open PySem L2
theorem WkAt.extn {C : Addr} {H H' : Hp} {a : Addr} {nm : Str} {ws : List Str} (k : WkAt C H a nm ws) (e : LamX.ExtN H H') : WkAt C H' a nm ws := by
  obtain ⟨⟨dx, t, d, h1, h2, h3⟩⟩ := k
  exact ⟨⟨dx, t, d, e _ _ h1 (fun _ z => by cases z), e _ _ h2 (fun _ z => by cases z), e _ _ h3 (fun _ z => by cases z)⟩⟩
theorem EdAt.extn {CW CE : Addr} {H H' : Hp} {a wk : Addr} {nm : Str} {ws : List Str} {S : Nat → Bool} (k : EdAt CW CE H a wk nm ws S) (e : LamX.ExtN H H') : EdAt CW CE H' a wk nm ws S := by
  obtain ⟨⟨dx, t, u, v, h1, h2, h3, h4⟩, h5⟩ := k
  exact ⟨⟨dx, t, u, v, e _ _ h1 (fun _ z => by cases z), e _ _ h2 (fun _ z => by cases z), e _ _ h3 (fun _ z => by cases z), e _ _ h4 (fun _ z => by cases z)⟩, h5.extn e⟩
/-- two editions of unequal works -/
structure TwoEd (CW CE : Addr) (H : Hp) (a b : Addr) : Prop where
  ex : ∃ (wk wk' : Addr) (nm nm' : Str) (ws ws' : List Str) (S U : Nat → Bool), EdAt CW CE H a wk nm ws S ∧ EdAt CW CE H b wk' nm' ws' U ∧ WOk ws ∧ WOk ws' ∧ ¬ (nm = nm' ∧ ws = ws')
theorem TwoEd.extn {CW CE : Addr} {H H' : Hp} {a b : Addr} (k : TwoEd CW CE H a b) (e : LamX.ExtN H H') : TwoEd CW CE H' a b := by
  obtain ⟨wk, wk', nm, nm', ws, ws', S, U, h1, h2, h3⟩ := k
  exact ⟨wk, wk', nm, nm', ws, ws', S, U, h1.extn e, h2.extn e, h3⟩
theorem go_isO {K : PySem.W.Frag} {CW CE CO T0 a b : Addr} {q : Str} {σ : L2.St} {H : Hp} {Q : VK} (exm : PySem.W.exmOne K (.ref CO) (.ref CO) = some true) (s0 : σ[0]? = some (some (.ref a))) (s1 : σ[1]? = some (some (.ref b))) (T : LamX.Tabs [(T0, q)] H) (h : TwoEd CW CE H a b)
    (k : ∀ H1, LamX.ExtN H H1 → LamX.Tabs [(T0, q)] H1 → Q (.bl true) H1) : LamX.tLam [(T0, q)] (TTother K CO) (fun E => tOp (rBinOwn CE (spOneX CW CE CO) E) (tVar 0) (tVar 1)) σ H Q := by
  refine ⟨T, fun H1 e1 T1 E R hE hR => ?_⟩
  obtain ⟨wk, wk', nm, nm', ws, ws', S, U, h1, h2, h3, h4, h5⟩ := (h.extn e1).ex
  obtain ⟨dx, t, u, v, o1, _⟩ := id h1.ob
  obtain ⟨dy, t', u', v', o2, _⟩ := id h2.ob
  exact ⟨_, s0, _, s1, a, dx, _, b, dy, _, rfl, rfl, o1, o2, a, b, wk, wk', nm, nm', ws, ws', S, U, rfl, h1, h2, h3, h4, h5, hE _ _ _ ⟨true, exm, fun _ => k H1 e1 T1, fun z => nomatch z⟩⟩
theorem Tabs_mut {T : List (Addr × Str)} {H : Hp} {l : Addr} {xs : List V} {o : HO} (t : LamX.Tabs T H) (hl : H l = some (.lst xs)) : LamX.Tabs T (upd H l o) := fun p hp => by
  obtain ⟨ps, h1, h2, h3⟩ := t p hp
  refine ⟨ps, by rw [upd_ne (ne_of h1 hl (by intro z; cases z))]; exact h1, h2, fun pos cv hc => ?_⟩
  obtain ⟨c, e1, e2⟩ := h3 pos cv hc
  exact ⟨c, e1, by rw [upd_ne (ne_of e2 hl (by intro z; cases z))]; exact e2⟩
theorem ExtN_mut {H H' : Hp} {l : Addr} {o : HO} (e : LamX.ExtN H H') (nl : ∀ o, H l = some o → ∃ ps, o = .tbl ps) : LamX.ExtN H (upd H' l o) := fun b u h n => by
  rw [upd_ne (fun z => by subst z; obtain ⟨ps, q⟩ := nl u h; exact n ps q)]
  exact e b u h n
/-- what stands behind n calls -/
structure OthN (CW CE T0 : Addr) (q : Str) (H0 : Hp) (a b l : Addr) (n : Nat) (H : Hp) : Prop where
  ex : LamX.ExtN H0 H
  nl : ∀ o, H0 l = some o → ∃ ps, o = .tbl ps
  tb : LamX.Tabs [(T0, q)] H
  tw : TwoEd CW CE H a b
  ls : H l = some (.lst ((List.replicate n true).map V.bl))
theorem go_appO {K : PySem.W.Frag} {CW CE CO T0 a b l : Addr} {q : Str} {H0 : Hp} {n : Nat} {σ : L2.St} {H : Hp} {tz : TS} {D : Ends} (exm : PySem.W.exmOne K (.ref CO) (.ref CO) = some true) (s0 : σ[0]? = some (some (.ref a))) (s1 : σ[1]? = some (some (.ref b))) (s2 : σ[2]? = some (some (.ref l))) (hn : n ≤ 900) (h : OthN CW CE T0 q H0 a b l n H)
    (k : ∀ H1, OthN CW CE T0 q H0 a b l (n + 1) H1 → tz D σ H1) : tSeq (tDrop (tBM K "list" rAppend (tVar 2) (tCons (LamX.tLam [(T0, q)] (TTother K CO) (fun E => tOp (rBinOwn CE (spOneX CW CE CO) E) (tVar 0) (tVar 1))) tNil))) tz D σ H := by
  refine ⟨_, s2, .inl ⟨rfl, _, SqL.of h.ls⟩, ?_⟩
  refine go_isO exm s0 s1 h.tb h.tw fun H1 x1 T1 => ?_
  have hl1 := x1 _ _ h.ls (fun _ z => by cases z)
  refine ⟨l, _, _, rfl, rfl, hl1, small1000 (by simp; omega), k _ ⟨ExtN_mut (LamX.ExtN.trans h.ex x1) h.nl, h.nl, Tabs_mut T1 hl1, ?_, ?_⟩⟩
  · have e2 : LamX.ExtN H1 H1 := LamX.ExtN.refl _
    obtain ⟨wk, wk', nm, nm', ws, ws', S, U, q1, q2, q3⟩ := (h.tw.extn x1).ex
    exact ⟨wk, wk', nm, nm', ws, ws', S, U, q1.kp (Kp.upd _ _ _) hl1, q2.kp (Kp.upd _ _ _) hl1, q3⟩
  · rw [upd_same, List.replicate_succ']
    simp
section
variable {P : Program} {w : World} {K : PySem.W.Frag} {mg : Str → Option Value} {base : Heap} {f : Addr} {fd : FuncData}
abbrev s_refused : Stmt := top 31
theorem sc_refused : FnScope ["_law_x", "_law_y", "_law_found"] ["_law_x", "_law_y"] (defScope s_refused) := ⟨rfl, rfl, rfl, by decide +kernel, rfl, by decide +kernel, by decide +kernel⟩
def spRefusedO (CW CE T0 : Addr) : Sp := fun vs H Q _ => ∃ a b : Addr, vs = [.ref a, .ref b] ∧ LamX.Tabs [(T0, "_law_refused.<locals>.<lambda>")] H ∧ TwoEd CW CE H a b ∧ ∀ H', LamX.ExtN H H' → LamX.Tabs [(T0, "_law_refused.<locals>.<lambda>")] H' → Q (.bl true) H'
theorem ok_refusedO {CW CE CO c T0 g fA fO fS fL fT : Addr} {fdg fdA fdO fdS fdL fdT : FuncData} (F : L2.Fun K "_law_refused" "_law_refused" s_refused f fd) (hc : fd.code = Value.ref c) (T : Blt mg) (Fg : L2.Fun K "_law_is_other" "_law_is_other" s_is_other g fdg) (hbg : L2.Binds K fdg ["_law_ask"] []) (hmg : mg "_law_is_other" = some (.ref g)) (hO : mg "OtherWork" = some (.ref CO))
    (TB : LamX.TabB base mg c T0) (exm : PySem.W.exmOne K (.ref CO) (.ref CO) = some true) (hsf : PySem.W.selfFirst K CE = true) (D_andX : MetOkX P w K mg base 6 CE "__and__" fA fdA ["self", "other"] (spOneX CW CE CO)) (D_orX : MetOkX P w K mg base 6 CE "__or__" fO fdO ["self", "other"] (spOneX CW CE CO)) (D_subX : MetOkX P w K mg base 6 CE "__sub__" fS fdS ["self", "other"] (spOneX CW CE CO))
    (D_leX : MetOkX P w K mg base 6 CE "__le__" fL fdL ["self", "other"] (spOneX CW CE CO)) (D_ltX : MetOkX P w K mg base 7 CE "__lt__" fT fdT ["self", "other"] (spOneX CW CE CO)) : FnOk P w K mg base CX0 10 f fd ["_law_x", "_law_y"] (spRefusedO CW CE T0) := by
  refine okC F hc sc_refused (fun vs H Q E h => ?_) (fun A outer s H vs Q E hr h => ?_)
  · obtain ⟨a, b, rfl, _⟩ := h
    rfl
  · obtain ⟨a, b, rfl, hT, h2, k⟩ := h
    refine ⟨_, (pss_cons (ps_set (i := 2) sc_refused.nd rfl (by first | exact Or.inl rfl | exact Or.inr rfl) (pe_lst (pa_cons (pe_isOther (k := 7) Fg hbg hmg hO TB rfl (hr.mono (by decide)) (fun A outer s H E f c2 hr2 => by exact (pe_op (MetOkX.binL D_andX hsf (hr2.mono (by decide))) (pv 0) (pv 1))) (LamX.lamS_by (by kernel_rfl))) pa_nil)))
        (pss_cons (ps_expr (pe_bm PySem.F.plainAttrs_list PySem.F.slot_list_append PySem.F.type_list_append mt_append (pv 2) (pa_cons (pe_isOther (k := 7) Fg hbg hmg hO TB rfl (hr.mono (by decide)) (fun A outer s H E f c2 hr2 => by exact (pe_op (MetOkX.binL D_orX hsf (hr2.mono (by decide))) (pv 0) (pv 1))) (LamX.lamS_by (by kernel_rfl))) pa_nil)))
        (pss_cons (ps_expr (pe_bm PySem.F.plainAttrs_list PySem.F.slot_list_append PySem.F.type_list_append mt_append (pv 2) (pa_cons (pe_isOther (k := 7) Fg hbg hmg hO TB rfl (hr.mono (by decide)) (fun A outer s H E f c2 hr2 => by exact (pe_op (MetOkX.binL D_subX hsf (hr2.mono (by decide))) (pv 0) (pv 1))) (LamX.lamS_by (by kernel_rfl))) pa_nil)))
        (pss_cons (ps_expr (pe_bm PySem.F.plainAttrs_list PySem.F.slot_list_append PySem.F.type_list_append mt_append (pv 2) (pa_cons (pe_isOther (k := 7) Fg hbg hmg hO TB rfl (hr.mono (by decide)) (fun A outer s H E f c2 hr2 => by exact (pe_cmpR (MetOkX.leL D_leX (hr2.mono (by decide))) (pv 0) (pv 1) (nomark _))) (LamX.lamS_by (by kernel_rfl))) pa_nil)))
        (pss_cons (ps_expr (pe_bm PySem.F.plainAttrs_list PySem.F.slot_list_append PySem.F.type_list_append mt_append (pv 2) (pa_cons (pe_isOther (k := 7) Fg hbg hmg hO TB rfl (hr.mono (by decide)) (fun A outer s H E f c2 hr2 => by exact (pe_cmpR (MetOkX.ltL D_ltX (hr2.mono (by decide))) (pv 0) (pv 1) (nomark _))) (LamX.lamS_by (by kernel_rfl))) pa_nil)))
        (pss_one (ps_ret (pe_callB (cr_all rfl) (by rfl) T.b_all (by decide +kernel) (pa_cons (pv 2) pa_nil))))))))), ?_⟩
    refine go_isO exm rfl rfl hT h2 fun H1 x1 T1 => ⟨by show 1 ≤ sizeLine; decide, fun l nl => ?_⟩
    have n0 : ∀ o, H l = some o → ∃ ps, o = .tbl ps := fun o ho => Classical.byContradiction fun hc => by
      have := x1 l o ho fun ps z => hc ⟨ps, z⟩
      rw [nl] at this
      cases this
    have h1 : OthN CW CE T0 "_law_refused.<locals>.<lambda>" H a b l 1 (upd H1 l (.lst [.bl true])) := ⟨ExtN_mut x1 n0, n0, T1.ext (Same.upd' nl), (h2.extn x1).extn (LamX.ExtN.of (Same.upd' nl)), upd_same⟩
    refine go_appO exm rfl rfl rfl (by decide) h1 fun H2 h2 => ?_
    refine go_appO exm rfl rfl rfl (by decide) h2 fun H3 h3 => ?_
    refine go_appO exm rfl rfl rfl (by decide) h3 fun H4 h4 => ?_
    refine go_appO exm rfl rfl rfl (by decide) h4 fun H5 h5 => ?_
    refine ⟨_, rfl, l, List.replicate 5 true, rfl, SqL.of h5.ls, ?_⟩
    exact k _ h5.ex h5.tb
end
end Lm

namespace Lm
open PySem L2
section
variable {P : Program} {w : World} {K : PySem.W.Frag} {mg : Str → Option Value} {base : Heap} {f : Addr} {fd : FuncData}
theorem ok_andX {CW CE CO fO fE : Addr} {fdO fdE : FuncData} (F : L2.Fun K "__and__" "Edition.__and__" s_Edition_and f fd) (D_oneX : DefOkX P w K mg base 3 "require_one_work" fO fdO ["one", "other"] (spOneX CW CE CO)) (K_Edition : ClsOk P w K mg base 4 "Edition" CE fE fdE ["self", "work", "passages"] (spEdInit CW CE)) :
    FnOk P w K mg base (L2.CX P w) 6 f fd ["self", "other"] (spOneX CW CE CO) := by
  refine F.okX sc_Edition_and (fun vs H Q E h => ?_) (fun cdv A outer s H vs Q E hr h => ?_)
  · obtain ⟨a, b, wk, wk', nm, nm', ws, ws', S, U, rfl, _⟩ := h
    rfl
  · obtain ⟨a, b, wk, wk', nm, nm', ws, ws', S, U, rfl, h⟩ := h
    refine ⟨_, (pss_cons (ps_expr (pe_dX D_oneX (hr.mono (by decide)) (passes_call (takes_of rfl rfl rfl rfl) (fun _ _ _ _ h => h)) (pa_cons (pv 0) (pa_cons (pv 1) pa_nil))))
        (pss_one (ps_ret (pe_mk K_Edition (hr.mono (by decide)) (by exact (pa_cons (pe_fld (pv 0) rfl) (pa_cons (pe_lc (own := [("word", 2)]) (g := gName 2) (tt := (tTest (tOp (rIn K false) (tVar 2) (tFld K (tVar 1) "words")))) (te := (tVar 2)) rfl sc_Edition_and.nd (pi_tup (pe_fld (pv 0) rfl)) (blkOk_by (own := [("word", 2)]) (by kernel_rfl)) (fun _ _ _ _ _ => (pg_name (i := 2) sc_Edition_and.nd rfl (by first | exact Or.inl rfl | exact Or.inr rfl))) (fun _ _ _ _ _ => by exact (pts_one (pt_cmpR op_in_seq (pv 2) (pe_fld (pv 1) rfl) (by rfl)))) (fun _ _ _ _ _ => by exact (pv 2))) pa_nil))))))), ?_⟩
    exact ⟨_, rfl, _, rfl, a, b, wk, wk', nm, nm', ws, ws', S, U, rfl, h⟩
theorem ok_orX {CW CE CO fO fE : Addr} {fdO fdE : FuncData} (F : L2.Fun K "__or__" "Edition.__or__" s_Edition_or f fd) (T : Blt mg) (D_oneX : DefOkX P w K mg base 3 "require_one_work" fO fdO ["one", "other"] (spOneX CW CE CO)) (K_Edition : ClsOk P w K mg base 4 "Edition" CE fE fdE ["self", "work", "passages"] (spEdInit CW CE)) :
    FnOk P w K mg base (L2.CX P w) 6 f fd ["self", "other"] (spOneX CW CE CO) := by
  refine F.okX sc_Edition_or (fun vs H Q E h => ?_) (fun cdv A outer s H vs Q E hr h => ?_)
  · obtain ⟨a, b, wk, wk', nm, nm', ws, ws', S, U, rfl, _⟩ := h
    rfl
  · obtain ⟨a, b, wk, wk', nm, nm', ws, ws', S, U, rfl, h⟩ := h
    refine ⟨_, (pss_cons (ps_expr (pe_dX D_oneX (hr.mono (by decide)) (passes_call (takes_of rfl rfl rfl rfl) (fun _ _ _ _ h => h)) (pa_cons (pv 0) (pa_cons (pv 1) pa_nil))))
        (pss_cons (ps_setLc (i := 2) (own := [("word", 3)]) (g := gName 3) (tt := (tOr (tTest (tOp (rIn K false) (tVar 3) (tFld K (tVar 0) "words"))) (tTest (tOp (rIn K false) (tVar 3) (tFld K (tVar 1) "words"))))) (te := (tVar 3)) rfl sc_Edition_or.nd rfl rfl (sw_true rfl rfl rfl (by decide +kernel)) (pi_tup (pe_fld (pe_fld (pv 0) rfl) rfl)) (blkOk_by (own := [("word", 3)]) (by kernel_rfl)) (fun _ _ _ _ _ => (pg_name (i := 3) sc_Edition_or.nd rfl (by first | exact Or.inl rfl | exact Or.inr rfl))) (fun _ _ _ _ _ => by exact (pts_one (PW.pt (pw_or (pt_cmpR op_in_seq (pv 3) (pe_fld (pv 0) rfl) (by rfl)) (pw_or1 (pt_cmpR op_in_seq (pv 3) (pe_fld (pv 1) rfl) (by rfl))))))) (fun _ _ _ _ _ => by exact (pv 3)))
        (pss_one (ps_ret (pe_mk K_Edition (hr.mono (by decide)) (pa_cons (pe_fld (pv 0) rfl) (pa_cons (pv 2) pa_nil))))))), ?_⟩
    exact ⟨_, rfl, _, rfl, a, b, wk, wk', nm, nm', ws, ws', S, U, rfl, h⟩
theorem ok_subX {CW CE CO fO fE : Addr} {fdO fdE : FuncData} (F : L2.Fun K "__sub__" "Edition.__sub__" s_Edition_sub f fd) (D_oneX : DefOkX P w K mg base 3 "require_one_work" fO fdO ["one", "other"] (spOneX CW CE CO)) (K_Edition : ClsOk P w K mg base 4 "Edition" CE fE fdE ["self", "work", "passages"] (spEdInit CW CE)) :
    FnOk P w K mg base (L2.CX P w) 6 f fd ["self", "other"] (spOneX CW CE CO) := by
  refine F.okX sc_Edition_sub (fun vs H Q E h => ?_) (fun cdv A outer s H vs Q E hr h => ?_)
  · obtain ⟨a, b, wk, wk', nm, nm', ws, ws', S, U, rfl, _⟩ := h
    rfl
  · obtain ⟨a, b, wk, wk', nm, nm', ws, ws', S, U, rfl, h⟩ := h
    refine ⟨_, (pss_cons (ps_expr (pe_dX D_oneX (hr.mono (by decide)) (passes_call (takes_of rfl rfl rfl rfl) (fun _ _ _ _ h => h)) (pa_cons (pv 0) (pa_cons (pv 1) pa_nil))))
        (pss_one (ps_ret (pe_mk K_Edition (hr.mono (by decide)) (by exact (pa_cons (pe_fld (pv 0) rfl) (pa_cons (pe_lc (own := [("word", 2)]) (g := gName 2) (tt := (tTest (tOp (rIn K true) (tVar 2) (tFld K (tVar 1) "words")))) (te := (tVar 2)) rfl sc_Edition_sub.nd (pi_tup (pe_fld (pv 0) rfl)) (blkOk_by (own := [("word", 2)]) (by kernel_rfl)) (fun _ _ _ _ _ => (pg_name (i := 2) sc_Edition_sub.nd rfl (by first | exact Or.inl rfl | exact Or.inr rfl))) (fun _ _ _ _ _ => by exact (pts_one (pt_cmpR op_notIn_seq (pv 2) (pe_fld (pv 1) rfl) (by rfl)))) (fun _ _ _ _ _ => by exact (pv 2))) pa_nil))))))), ?_⟩
    exact ⟨_, rfl, _, rfl, a, b, wk, wk', nm, nm', ws, ws', S, U, rfl, h⟩
theorem ok_leX {CW CE CO fO : Addr} {fdO : FuncData} (F : L2.Fun K "__le__" "Edition.__le__" s_Edition_le f fd) (T : Blt mg) (D_oneX : DefOkX P w K mg base 3 "require_one_work" fO fdO ["one", "other"] (spOneX CW CE CO)) :
    FnOk P w K mg base (L2.CX P w) 6 f fd ["self", "other"] (spOneX CW CE CO) := by
  refine F.okX sc_Edition_le (fun vs H Q E h => ?_) (fun cdv A outer s H vs Q E hr h => ?_)
  · obtain ⟨a, b, wk, wk', nm, nm', ws, ws', S, U, rfl, _⟩ := h
    rfl
  · obtain ⟨a, b, wk, wk', nm, nm', ws, ws', S, U, rfl, h⟩ := h
    refine ⟨_, (pss_cons (ps_expr (pe_dX D_oneX (hr.mono (by decide)) (passes_call (takes_of rfl rfl rfl rfl) (fun _ _ _ _ h => h)) (pa_cons (pv 0) (pa_cons (pv 1) pa_nil))))
        (pss_one (ps_ret (pe_callB (cr_all rfl) (by rfl) T.b_all (by decide +kernel) (by exact (pa_cons (pe_lc (own := [("word", 2)]) (g := gName 2) (tt := tYes) (te := (tOp (rIn K false) (tVar 2) (tFld K (tVar 1) "words"))) rfl sc_Edition_le.nd (pi_tup (pe_fld (pv 0) rfl)) (blkOk_by (own := [("word", 2)]) (by kernel_rfl)) (fun _ _ _ _ _ => (pg_name (i := 2) sc_Edition_le.nd rfl (by first | exact Or.inl rfl | exact Or.inr rfl))) (fun _ _ _ _ _ => pts_nil) (fun _ _ _ _ _ => by exact (pe_cmpR op_in_seq (pv 2) (pe_fld (pv 1) rfl) (by rfl)))) pa_nil)))))), ?_⟩
    exact ⟨_, rfl, _, rfl, a, b, wk, wk', nm, nm', ws, ws', S, U, rfl, h⟩
abbrev s_Edition_lt : Stmt := inClass (top 13) 12
theorem sc_Edition_lt : FnScope ["self", "other"] ["self", "other"] (defScope s_Edition_lt) := ⟨rfl, rfl, rfl, by decide +kernel, rfl, by decide +kernel, by decide +kernel⟩
theorem ok_ltX {CW CE CO fL : Addr} {fdL : FuncData} (F : L2.Fun K "__lt__" "Edition.__lt__" s_Edition_lt f fd) (T : Blt mg) (M_leX : MetOkX P w K mg base 6 CE "__le__" fL fdL ["self", "other"] (spOneX CW CE CO)) :
    FnOk P w K mg base (L2.CX P w) 7 f fd ["self", "other"] (spOneX CW CE CO) := by
  refine F.okX sc_Edition_lt (fun vs H Q E h => ?_) (fun cdv A outer s H vs Q E hr h => ?_)
  · obtain ⟨a, b, wk, wk', nm, nm', ws, ws', S, U, rfl, _⟩ := h
    rfl
  · obtain ⟨a, b, wk, wk', nm, nm', ws, ws', S, U, rfl, he, hf, h⟩ := h
    obtain ⟨dx, t, u, v, o1, _⟩ := id he.ob
    obtain ⟨dy, t', u', v', o2, _⟩ := id hf.ob
    refine ⟨_, (pss_one (ps_ret (pe_and (pe_cmpR (op_cmpOwn (fun _ _ => rfl) M_leX.ok M_leX.mt.at_ M_leX.mt.fn M_leX.bd (hr.mono (by decide)) (passes_call (takes_of rfl rfl rfl rfl) (fun _ _ _ _ h => h))) (pv 0) (pv 1) (nomark _)) (pe_one (pe_cmpR op_lt (pe_callB call_len_seq (by rfl) T.b_len PySem.boot_len (pa_cons (pe_fld (pv 0) rfl) pa_nil)) (pe_callB call_len_seq (by rfl) T.b_len PySem.boot_len (pa_cons (pe_fld (pv 1) rfl) pa_nil)) (nomark _)))))), ?_⟩
    exact ⟨_, rfl, _, rfl, a, dx, _, b, dy, _, rfl, rfl, o1, o2, a, b, wk, wk', nm, nm', ws, ws', S, U, rfl, he, hf, h⟩
end
end Lm

namespace Lm
open PySem L2 Evl RZ
/-! ### carried over all but the tables -/
theorem StAt.extn {H H' : Hp} {st c : Addr} (S : StAt H st c) (e : LamX.ExtN H H') : StAt H' st c := by
  obtain ⟨⟨n, l, b, h⟩, ⟨ns, h2, h3⟩, ne⟩ := S
  exact ⟨⟨n, l, b, e _ _ h (fun _ z => by cases z)⟩, ⟨ns, e _ _ h2 (fun _ z => by cases z), h3⟩, ne⟩
theorem Tabs_kp {T : List (Addr × Str)} {H H' : Hp} {st : Addr} {xs : List V} (t : LamX.Tabs T H) (e : Kp st H H') (hs : H st = some (.lst xs)) : LamX.Tabs T H' := fun p hp => by
  obtain ⟨ps, h1, h2, h3⟩ := t p hp
  refine ⟨ps, e _ _ (ne_of h1 hs (by intro z; cases z)) h1, h2, fun pos cv hc => ?_⟩
  obtain ⟨c, e1, e2⟩ := h3 pos cv hc
  exact ⟨c, e1, e _ _ (ne_of e2 hs (by intro z; cases z)) e2⟩
theorem StAt.lst {H : Hp} {st c : Addr} (S : StAt H st c) : ∃ xs, H st = some (.lst xs) := let ⟨⟨_, _, _, h⟩, _, _⟩ := S; ⟨_, h⟩
theorem Tabs_st {T : List (Addr × Str)} {H H' : Hp} {st c : Addr} (t : LamX.Tabs T H) (e : Kp st H H') (S : StAt H st c) : LamX.Tabs T H' := let ⟨_, h⟩ := S.lst; Tabs_kp t e h
theorem wv {σ : L2.St} {i j : Nat} {x y : V} (h : i ≠ j) (hi : σ[i]? = some (some y)) : ((wipe σ [j]).set j (some x))[i]? = some (some y) := by
  show (((σ.set j none).set j (some x)))[i]? = _
  rw [List.getElem?_set_ne (Ne.symm h), List.getElem?_set_ne (Ne.symm h)]
  exact hi
theorem wj {σ : L2.St} {j : Nat} {x : V} (hl : j < σ.length) : ((wipe σ [j]).set j (some x))[j]? = some (some x) := by
  show (((σ.set j none).set j (some x)))[j]? = _
  rw [List.set_set, List.getElem?_set_self hl]
theorem el_rg {σ : L2.St} {H : Hp} {te : TE} {n : Int} (h : Ev te σ H (.int n)) (hn : 0 ≤ n ∧ n ≤ 100000) : EvL (tLstRg (tRg1 te)) σ H (nts (List.range n.toNat)) := fun H1 e Q q => h H1 e _ fun H2 e2 => by
  refine ⟨n, rfl, .of_le (by omega) (by omega) (by omega) (by omega), fun p hp => ?_⟩
  have e3 : rgV 0 n = nts (List.range n.toNat) := by
    unfold rgV nts
    rw [Int.sub_zero]
    exact List.map_congr_left fun i _ => by rw [Int.zero_add]
  rw [e3]
  exact q p _ (fresh_back e2 hp) (e2.trans (Ex.new hp)) upd_same
def refs (l : List Addr) : List V := l.map V.ref
theorem refs_len (l : List Addr) : (refs l).length = l.length := List.length_map ..
theorem refs_at {l : List Addr} {i : Nat} {a : Addr} (h : l[i]? = some a) : (refs l)[i]? = some (.ref a) := by
  unfold refs
  rw [List.getElem?_map, h]
  rfl
theorem refs_inv {l : List Addr} {i : Nat} {x : V} (h : (refs l)[i]? = some x) : ∃ a, l[i]? = some a ∧ x = .ref a := by
  unfold refs at h
  rw [List.getElem?_map] at h
  cases e : l[i]? with
  | none => rw [e] at h; cases h
  | some a => rw [e] at h; exact ⟨a, rfl, (Option.some.inj h).symm⟩
theorem idx_all (N : Nat) : idx N (fun _ => true) = List.range N := List.filter_eq_self.mpr fun _ _ => rfl
theorem idx_non (N : Nat) : idx N (fun _ => false) = [] := by unfold idx; simp
structure EdsL (CW CE : Addr) (H : Hp) (ws : List Str) (es : List Addr) (Ss : List (Nat → Bool)) : Prop where
  len : es.length = Ss.length
  at_ : ∀ (i : Nat) e S, es[i]? = some e → Ss[i]? = some S → ∃ wk, EdAt CW CE H e wk "a" ws S
theorem EdsL.same {CW CE : Addr} {H H' : Hp} {ws : List Str} {es : List Addr} {Ss : List (Nat → Bool)} (h : EdsL CW CE H ws es Ss) (k : Same H H') : EdsL CW CE H' ws es Ss :=
  ⟨h.len, fun i d S a b => let ⟨wk, e⟩ := h.at_ i d S a b; ⟨wk, e.same k⟩⟩
theorem app_at {α β : Type} {l : List α} {m : List β} {a : α} {b : β} {P : α → β → Prop} (hl : l.length = m.length) (h : ∀ (i : Nat) x y, l[i]? = some x → m[i]? = some y → P x y) (hn : P a b) : ∀ (i : Nat) x y, (l ++ [a])[i]? = some x → (m ++ [b])[i]? = some y → P x y := by
  intro i x y hx hy
  rcases Nat.lt_or_ge i l.length with hi | hi
  · rw [List.getElem?_append_left hi] at hx
    rw [List.getElem?_append_left (by omega)] at hy
    exact h i x y hx hy
  · rw [List.getElem?_append_right hi] at hx
    rw [List.getElem?_append_right (by omega)] at hy
    cases e : i - l.length with
    | zero =>
      rw [e] at hx
      rw [show i - m.length = 0 by omega] at hy
      cases hx
      cases hy
      exact hn
    | succ n => rw [e] at hx; simp at hx
theorem cat_at {α β : Type} {l l' : List α} {m m' : List β} {P : α → β → Prop} (hl : l.length = m.length) (h : ∀ (i : Nat) x y, l[i]? = some x → m[i]? = some y → P x y) (h' : ∀ (i : Nat) x y, l'[i]? = some x → m'[i]? = some y → P x y) : ∀ (i : Nat) x y, (l ++ l')[i]? = some x → (m ++ m')[i]? = some y → P x y := by
  intro i x y hx hy
  rcases Nat.lt_or_ge i l.length with hi | hi
  · rw [List.getElem?_append_left hi] at hx
    rw [List.getElem?_append_left (by omega)] at hy
    exact h i x y hx hy
  · rw [List.getElem?_append_right hi] at hx
    rw [List.getElem?_append_right (by omega), ← hl] at hy
    exact h' _ x y hx hy
theorem given_true (n : Nat) (v : Nat → V) : given n (fun _ => true) v = (List.range n).map v := by
  unfold given
  rw [List.filter_eq_self.mpr fun _ _ => rfl]
theorem range_mapD {α β : Type} (l : List α) (g : α → β) (d : β) : (List.range l.length).map (fun i => (l.map g).getD i d) = l.map g := by
  refine List.ext_getElem? fun i => ?_
  rw [List.getElem?_map, List.getElem?_map]
  rcases Nat.lt_or_ge i l.length with h | h
  · rw [List.getElem?_range h, List.getElem?_eq_getElem h]
    simp [List.getD_eq_getElem?_getD, List.getElem?_eq_getElem h]
  · rw [List.getElem?_eq_none (by simpa using h), List.getElem?_eq_none h]
    rfl
theorem getD_of {α β : Type} {l : List α} {g : α → β} {d : β} {i : Nat} {x : α} (h : l[i]? = some x) : (l.map g).getD i d = g x := by
  rw [List.getD_eq_getElem?_getD, List.getElem?_map, h]
  rfl
theorem et_yes {σ : L2.St} {H : Hp} : EvT tYes σ H true := fun H1 _ _ q => q H1 (Ex.refl H1)
section
variable {K : PySem.W.Frag} {σ : L2.St} {H : Hp} {ta tb te : TE}
theorem map_inv {α : Type} {l : List α} {f : α → V} {i : Nat} {v : V} (h : (l.map f)[i]? = some v) : ∃ x, l[i]? = some x ∧ v = f x := by
  rw [List.getElem?_map] at h
  cases e : l[i]? with
  | none => rw [e] at h; cases h
  | some a => rw [e] at h; exact ⟨a, rfl, (Option.some.inj h).symm⟩
/-- [e for x in l], l a list -/
theorem el_mapL {α : Type} {l : List α} {f g : α → V} {tl : TE} {j : Nat} {a : Addr} (h : Ev tl σ H (.ref a)) (ha : H a = some (.lst (l.map f))) (hz : l.length ≤ 40000) (he : ∀ x ∈ l, ∀ H1, Ex H H1 → Ev te ((wipe σ [j]).set j (some (f x))) H1 (g x)) :
    EvL (tLc (iList K tl) (gName j) tYes te [j]) σ H (l.map g) := by
  have := el_lcL (K := K) (σ := σ) (H := H) (tl := tl) (t := tYes) (te := te) (vs := [j]) (j := j) (fun _ => true) (fun i => (l.map g).getD i .non) h (sq_of ha) (by rw [List.length_map]; exact hz) (fun v => wipe1 _ j v) (fun _ _ _ _ _ => et_yes) fun i v H1 e1 hv _ => by
    obtain ⟨x, hx, rfl⟩ := map_inv hv
    rw [getD_of hx]
    exact he x (List.mem_of_getElem? hx) H1 e1
  rw [given_true, List.length_map, range_mapD] at this
  exact this
/-- … a new list -/
theorem el_mapN {α : Type} {l : List α} {f g : α → V} {tl : TE} {j : Nat} (h : EvL tl σ H (l.map f)) (hz : l.length ≤ 40000) (he : ∀ x ∈ l, ∀ H1, Ex H H1 → Ev te ((wipe σ [j]).set j (some (f x))) H1 (g x)) :
    EvL (tLc (iList K tl) (gName j) tYes te [j]) σ H (l.map g) := by
  have := el_lcNL (K := K) (σ := σ) (H := H) (tl := tl) (t := tYes) (te := te) (vs := [j]) (j := j) (fun _ => true) (fun i => (l.map g).getD i .non) h (by rw [List.length_map]; exact hz) (fun v => wipe1 _ j v) (fun _ _ _ _ _ => et_yes) fun i v H1 e1 hv _ => by
    obtain ⟨x, hx, rfl⟩ := map_inv hv
    rw [getD_of hx]
    exact he x (List.mem_of_getElem? hx) H1 e1
  rw [given_true, List.length_map, range_mapD] at this
  exact this
/-- … a tuple -/
theorem el_mapT {α : Type} {l : List α} {f g : α → V} {tl : TE} {j : Nat} {a : Addr} (h : Ev tl σ H (.ref a)) (ha : H a = some (.tup (l.map f))) (hz : l.length ≤ 40000) (he : ∀ x ∈ l, ∀ H1, Ex H H1 → Ev te ((wipe σ [j]).set j (some (f x))) H1 (g x)) :
    EvL (tLc (iTup K tl) (gName j) tYes te [j]) σ H (l.map g) := fun H0 e Q q => h H0 e _ fun H1 e1 => ⟨a, rfl, ⟨_, st_of ((Ex.trans e e1) _ _ ha)⟩, fun Dl hD => by
  refine lc_tup (K := K) (a := a) (xs := l.map f) (Cw H1 (fun _ => true) (fun i => (l.map g).getD i .non) Dl) ⟨hD, Ex.new hD, upd_same⟩ (fun i H' _ p => st_of (Ex.trans (Ex.trans e e1) p.2.1 _ _ ha)) (fun i v H' hv p => ⟨wipe1 _ j v, ?_⟩) (fun H' p => ?_)
  · obtain ⟨x, hx, rfl⟩ := map_inv hv
    refine cw_turn p (by have := (List.getElem?_eq_some_iff.mp hx).1; omega) et_yes fun _ => ?_
    rw [getD_of hx]
    exact he x (List.mem_of_getElem? hx) H1 (Ex.trans e e1)
  · have p3 := p.2.2
    rw [given_true, List.length_map, range_mapD] at p3
    exact q Dl H' (fresh_back e1 p.1) (Ex.trans e1 p.2.1) p3⟩
/-- [e for k in range(n)] -/
theorem el_mapR {ta : TA} {j : Nat} {n : Nat} {g : Nat → V} (h : EvA ta σ H [.int (n : Int)]) (hn : n ≤ 40000) (he : ∀ k < n, ∀ H1, Ex H H1 → Ev te ((wipe σ [j]).set j (some (.int (k : Nat)))) H1 (g k)) :
    EvL (tLc (iRng1 ta) (gName j) tYes te [j]) σ H ((List.range n).map g) := by
  have := el_lcR1 (σ := σ) (H := H) (ta := ta) (t := tYes) (te := te) (vs := [j]) (j := j) (n := (n : Int)) (fun _ => true) g h ⟨by omega, by omega⟩ (fun v => wipe1 _ j v) (fun _ _ _ _ => et_yes) fun i H1 e1 hi _ => he i (by omega) H1 e1
  rw [given_true] at this
  exact this
/-- [k for k in range(n) if t] -/
theorem el_filR {ta : TA} {tt : TT} {j : Nat} {n : Nat} {f : Nat → Bool} (h : EvA ta σ H [.int (n : Int)]) (hn : n ≤ 40000) (ht : ∀ k < n, ∀ H1, Ex H H1 → EvT tt ((wipe σ [j]).set j (some (.int (k : Nat)))) H1 (f k)) (hj : j < σ.length) :
    EvL (tLc (iRng1 ta) (gName j) tt (tVar j) [j]) σ H (nts ((List.range n).filter f)) := by
  have := el_lcR1 (σ := σ) (H := H) (ta := ta) (t := tt) (te := tVar j) (vs := [j]) (j := j) (n := (n : Int)) f (fun i => .int (i : Nat)) h ⟨by omega, by omega⟩ (fun v => wipe1 _ j v) (fun i H1 e1 hi => ht i (by omega) H1 e1) fun i H1 e1 hi _ => ev_var (wj hj)
  exact this
end
/-! ### comprehensions of new lists -/
def frs (zs : List (Addr × List V)) : List V := zs.map fun z => V.ref z.1
def EvLL (te : TE) (σ : L2.St) (H : Hp) (xss : List (List V)) : Prop := ∀ H1, Ex H H1 → ∀ Q : VK, (∀ p zs H2, H1 p = none → Ex H1 H2 → H2 p = some (.lst (frs zs)) → zs.map (fun z => z.2) = xss → (∀ z ∈ zs, H2 z.1 = some (.lst z.2)) → Q (.ref p) H2) → te σ H1 Q
/-- what is there behind i turns -/
def Nw (H : Hp) (g : Nat → List V) (D : Addr) (i : Nat) (H' : Hp) : Prop := H D = none ∧ Ex H H' ∧ ∃ zs, H' D = some (.lst (frs zs)) ∧ zs.map (fun z => z.2) = (List.range i).map g ∧ ∀ z ∈ zs, z.1 ≠ D ∧ H' z.1 = some (.lst z.2)
theorem nw_len {H : Hp} {g : Nat → List V} {D : Addr} {i : Nat} {zs : List (Addr × List V)} (h : zs.map (fun z => z.2) = (List.range i).map g) : zs.length = i := by
  have := congrArg List.length h
  simpa using this
theorem nw_turn {H H' : Hp} {g : Nat → List V} {D : Addr} {i : Nat} {σ2 : L2.St} {te : TE} (p : Nw H g D i H') (hi : i < 50000) (he : EvL te σ2 H (g i)) :
    tYes σ2 H' fun b H3 => if b = true then te σ2 H3 fun y H4 => ∃ acc, H4 D = some (.lst acc) ∧ acc.length < sizeLine ∧ Nw H g D (i + 1) (upd H4 D (.lst (acc ++ [y]))) else Nw H g D (i + 1) H3 := by
  obtain ⟨p1, p2, zs, p3, p4, p5⟩ := p
  show te σ2 H' _
  refine he H' p2 _ fun a H4 na e4 ha => ?_
  have hD4 := e4 _ _ p3
  have haD : a ≠ D := (ne_of_none p3 na).symm
  refine ⟨frs zs, hD4, sz_lt (by unfold frs; rw [List.length_map, nw_len (H := H) (D := D) p4]; omega), p1, Ex.mut (Ex.trans p2 e4) p1, zs ++ [(a, g i)], ?_, ?_, fun z hz => ?_⟩
  · rw [upd_same]
    unfold frs
    rw [List.map_append]
    rfl
  · rw [List.map_append, p4, List.range_succ, List.map_append]
    rfl
  · rcases List.mem_append.mp hz with q | q
    · obtain ⟨q1, q2⟩ := p5 z q
      exact ⟨q1, by rw [upd_ne q1]; exact e4 _ _ q2⟩
    · rw [List.mem_singleton.mp q]
      exact ⟨haD, by rw [upd_ne haD]; exact ha⟩
section
variable {K : PySem.W.Frag} {σ : L2.St} {H : Hp} {te : TE}
theorem el_newR {ta : TA} {j n : Nat} {g : Nat → List V} (h : EvA ta σ H [.int (n : Int)]) (hn : n ≤ 40000) (he : ∀ k < n, ∀ H1, Ex H H1 → EvL te ((wipe σ [j]).set j (some (.int (k : Nat)))) H1 (g k)) :
    EvLL (tLc (iRng1 ta) (gName j) tYes te [j]) σ H ((List.range n).map g) := fun H0 e Q q => h H0 e _ fun H1 e1 => ⟨(n : Int), rfl, by omega, by omega, fun Dl hD =>
  lc_range (lo := 0) (n := ((n : Int)).toNat) (Nw H1 g Dl) ⟨hD, Ex.new hD, [], upd_same, rfl, fun z hz => (List.not_mem_nil hz).elim⟩ (fun i H' hi p => by
    have e0 : (0 : Int) + (i : Int) = (i : Int) := Int.zero_add _
    rw [e0]
    exact ⟨wipe1 _ j _, nw_turn p (by omega) (he i (by omega) H1 (Ex.trans e e1))⟩) (fun H' p => by
    obtain ⟨p1, p2, zs, p3, p4, p5⟩ := p
    exact q Dl zs H' (fresh_back e1 p1) (Ex.trans e1 p2) p3 (by simpa using p4) fun z hz => (p5 z hz).2)⟩
theorem el_newL {tl : TE} {j : Nat} {a : Addr} {xs : List V} {g : Nat → List V} (h : Ev tl σ H (.ref a)) (ha : H a = some (.lst xs)) (hz : xs.length ≤ 40000) (he : ∀ (i : Nat) x, xs[i]? = some x → ∀ H1, Ex H H1 → EvL te ((wipe σ [j]).set j (some x)) H1 (g i)) :
    EvLL (tLc (iList K tl) (gName j) tYes te [j]) σ H ((List.range xs.length).map g) := fun H0 e Q q => h H0 e _ fun H1 e1 => ⟨a, rfl, ⟨xs, sq_of (Ex.trans e e1 _ _ ha)⟩, fun Dl hD =>
  lc_list (xs := xs) (Nw H1 g Dl) ⟨hD, Ex.new hD, [], upd_same, rfl, fun z hz => (List.not_mem_nil hz).elim⟩ (fun i H' _ p => sq_of (Ex.trans (Ex.trans e e1) p.2.1 _ _ ha)) (fun i x H' hx p => ⟨wipe1 _ j x, nw_turn p (by have := (List.getElem?_eq_some_iff.mp hx).1; omega) (he i x hx H1 (Ex.trans e e1))⟩) (fun H' p => by
    obtain ⟨p1, p2, zs, p3, p4, p5⟩ := p
    exact q Dl zs H' (fresh_back e1 p1) (Ex.trans e1 p2) p3 p4 fun z hz => (p5 z hz).2)⟩
theorem el_newU {tl : TE} {j : Nat} {xs : List V} {g : Nat → List V} (h : EvU tl σ H xs) (hz : xs.length ≤ 40000) (he : ∀ (i : Nat) x, xs[i]? = some x → ∀ H1, Ex H H1 → EvL te ((wipe σ [j]).set j (some x)) H1 (g i)) :
    EvLL (tLc (iTup K tl) (gName j) tYes te [j]) σ H ((List.range xs.length).map g) := fun H0 e Q q => h H0 e _ fun a H1 na e1 ha => ⟨a, rfl, ⟨xs, st_of ha⟩, fun Dl hD =>
  lc_tup (xs := xs) (Nw H1 g Dl) ⟨hD, Ex.new hD, [], upd_same, rfl, fun z hz => (List.not_mem_nil hz).elim⟩ (fun i H' _ p => st_of (p.2.1 _ _ ha)) (fun i x H' hx p => ⟨wipe1 _ j x, nw_turn p (by have := (List.getElem?_eq_some_iff.mp hx).1; omega) (he i x hx H1 (Ex.trans e e1))⟩) (fun H' p => by
    obtain ⟨p1, p2, zs, p3, p4, p5⟩ := p
    exact q Dl zs H' (fresh_back e1 p1) (Ex.trans e1 p2) p3 p4 fun z hz => (p5 z hz).2)⟩
end

theorem given_list (l : List Nat) (p : Nat → Bool) (g : Nat → V) : given l.length (fun i => p (l.getD i 0)) (fun i => g (l.getD i 0)) = (l.filter p).map g := by
  have e := map_getD l (fun n => n)
  rw [List.map_id'] at e
  conv => rhs; rw [← e]
  unfold given
  rw [List.filter_map, List.map_map]
  rfl
theorem nts_inv {l : List Nat} {i : Nat} {x : V} (h : (nts l)[i]? = some x) : x = .int (l.getD i 0 : Nat) ∧ l.getD i 0 ∈ l := by
  unfold nts at h
  obtain ⟨n, hn, rfl⟩ := map_inv h
  have e : l.getD i 0 = n := by rw [List.getD_eq_getElem?_getD, hn]; rfl
  rw [e]
  exact ⟨rfl, List.mem_of_getElem? hn⟩
section
variable {K : PySem.W.Frag} {σ : L2.St} {H : Hp} {ta tb te : TE}
/-- [k for k in l if t], l a list of numbers -/
theorem el_filL {l : List Nat} {tl : TE} {tt : TT} {j : Nat} {a : Addr} {p : Nat → Bool} (h : Ev tl σ H (.ref a)) (ha : H a = some (.lst (nts l))) (hz : l.length ≤ 40000) (ht : ∀ n ∈ l, ∀ H1, Ex H H1 → EvT tt ((wipe σ [j]).set j (some (.int (n : Nat)))) H1 (p n)) (hj : j < σ.length) :
    EvL (tLc (iList K tl) (gName j) tt (tVar j) [j]) σ H (nts (l.filter p)) := by
  have := el_lcL (K := K) (σ := σ) (H := H) (tl := tl) (t := tt) (te := tVar j) (vs := [j]) (j := j) (fun i => p (l.getD i 0)) (fun i => .int (l.getD i 0 : Nat)) h (sq_of ha) (by rw [nts_len]; exact hz) (fun v => wipe1 _ j v) (fun i x H1 e1 hx => by
    obtain ⟨rfl, hm⟩ := nts_inv hx
    exact ht _ hm H1 e1) (fun i x H1 e1 hx _ => by
    obtain ⟨rfl, hm⟩ := nts_inv hx
    exact ev_var (wj hj))
  rw [nts_len, given_list l p (fun n => .int (n : Nat))] at this
  exact this
/-- [.. for x, y in zip(two lists)], new lists -/
theorem el_newZ {a b : Addr} {xs ys : List V} {i j : Nat} {vs : List Nat} {g : Nat → List V} (ha : Ev ta σ H (.ref a)) (hb : Ev tb σ H (.ref b)) (h1 : H a = some (.lst xs)) (h2 : H b = some (.lst ys)) (hl : xs.length = ys.length) (hz : xs.length ≤ 40000)
    (hw : ∀ x y, wipe (((wipe σ vs).set i (some x)).set j (some y)) vs = wipe σ vs) (he : ∀ (n : Nat) (x y : V) H1, Ex H H1 → xs[n]? = some x → ys[n]? = some y → EvL te (((wipe σ vs).set i (some x)).set j (some y)) H1 (g n)) :
    EvLL (tLc (iZipA K (tCons ta (tCons tb tNil))) (gTup K 2 (gCons (gName i) (gCons (gName j) gNil))) tYes te vs) σ H ((List.range xs.length).map g) := fun H0 e Q q => ha H0 e _ fun H1 e1 => hb H1 (e.trans e1) _ fun H2 e2 => by
  have E := (e.trans e1).trans e2
  have hmin : xs.length = min xs.length ys.length := by omega
  have turn : ∀ (n : Nat) (z : V) (Hn Hn' : Hp) (D : Addr), n < xs.length → Nw H2 g D n Hn → YPair (fun i => xs[i]?) (fun i => ys[i]?) n Hn z Hn' →
      gTup K 2 (gCons (gName i) (gCons (gName j) gNil)) z (wipe σ vs) Hn' fun σ2 H2' => wipe σ2 vs = wipe σ vs ∧ tYes σ2 H2' fun b H3 => if b = true then te σ2 H3 fun y H4 => ∃ acc, H4 D = some (.lst acc) ∧ acc.length < sizeLine ∧ Nw H2 g D (n + 1) (upd H4 D (.lst (acc ++ [y]))) else Nw H2 g D (n + 1) H3 := by
    rintro n z Hn Hn' D hn p ⟨T', x, y, rfl, nT, rfl, hx1, hy1⟩
    refine ⟨T', _, rfl, SqT.of upd_same, rfl, _, _, rfl, _, _, rfl, rfl, hw x y, ?_⟩
    obtain ⟨q1, q2, zs, q3, q4, q5⟩ := p
    have p' : Nw H2 g D n (upd Hn T' (.tup [x, y])) := ⟨q1, q2.trans (Ex.new nT), zs, by rw [upd_ne (ne_of_none q3 nT)]; exact q3, q4, fun z hz => ⟨(q5 z hz).1, by rw [upd_ne (ne_of_none (q5 z hz).2 nT)]; exact (q5 z hz).2⟩⟩
    exact nw_turn p' (by omega) (he n x y H2 E hx1 hy1)
  have fin : ∀ D H', Nw H2 g D xs.length H' → Q (.ref D) H' := fun D H' p => by
    obtain ⟨p1, p2, zs, p3, p4, p5⟩ := p
    exact q D zs H' (fresh_back (e1.trans e2) p1) ((e1.trans e2).trans p2) p3 p4 fun z hz => (p5 z hz).2
  refine ⟨a, b, xs, ys, rfl, ?_⟩
  refine .inl ⟨sq_of (E _ _ h1), sq_of (E _ _ h2), fun D hD => lc_it (walk_zip hmin) (Nw H2 g D) ⟨hD, Ex.new hD, [], upd_same, rfl, fun z hz => (List.not_mem_nil hz).elim⟩ (fun n H' _ p => ⟨sq_of ((E.trans p.2.1) _ _ h1), sq_of ((E.trans p.2.1) _ _ h2)⟩) (fun n z Hn Hn' hn p y => turn n z Hn Hn' D hn p y) (fun H' p => fin D H' p)⟩
def flt (x : V) : Prop := (∃ i, x = V.int i) ∨ (∃ b, x = V.bl b) ∨ ∃ s, x = V.str s
theorem SameV.flt {H : Hp} {d : Nat} {x : V} (h : flt x) : SameV H (d + 1) x x := by
  rcases h with ⟨i, rfl⟩ | ⟨i, rfl⟩ | ⟨i, rfl⟩
  · exact .int _
  · exact .bl _
  · exact .str _
/-- lists of lists of flat things are the same -/
theorem same_LLf {H' : Hp} {p q : Addr} {zs ys : List (Addr × List V)} (hp : H' p = some (.lst (frs zs))) (hz : ∀ z ∈ zs, H' z.1 = some (.lst z.2)) (hq : H' q = some (.lst (frs ys))) (hy : ∀ z ∈ ys, H' z.1 = some (.lst z.2)) (e : zs.map (fun z => z.2) = ys.map (fun z => z.2)) (hl : zs.length ≤ 40000) (hn : ∀ z ∈ zs, z.2.length ≤ 40000 ∧ ∀ x ∈ z.2, flt x) : SameV H' 3 (.ref p) (.ref q) := by
  have hle : zs.length = ys.length := by have := congrArg List.length e; simpa using this
  refine .lst hp hq (by unfold frs; rw [List.length_map, List.length_map, hle]) (by unfold frs; rw [List.length_map]; exact hl) fun i u v hu hv => ?_
  obtain ⟨z, hz1, rfl⟩ := map_inv hu
  obtain ⟨y, hy1, rfl⟩ := map_inv hv
  have e2 : z.2 = y.2 := by
    have h1 : (zs.map fun z => z.2)[i]? = some z.2 := by rw [List.getElem?_map, hz1]; rfl
    have h2 : (ys.map fun z => z.2)[i]? = some y.2 := by rw [List.getElem?_map, hy1]; rfl
    rw [e, h2] at h1
    exact (Option.some.inj h1).symm
  have hzm := List.mem_of_getElem? hz1
  have hym := List.mem_of_getElem? hy1
  obtain ⟨n1, n2⟩ := hn z hzm
  refine .flat (d := 0) (hz z hzm) (by rw [e2]; exact hy y hym) n1 fun x hx => ?_
  exact .flt (n2 x hx)
theorem ev_sameLf {p : Addr} {zs : List (Addr × List V)} (h1 : Ev ta σ H (.ref p)) (hp : H p = some (.lst (frs zs))) (hz : ∀ z ∈ zs, H z.1 = some (.lst z.2)) (h2 : EvLL tb σ H (zs.map fun z => z.2)) (hl : zs.length ≤ 40000) (hn : ∀ z ∈ zs, z.2.length ≤ 40000 ∧ ∀ x ∈ z.2, flt x) :
    Ev (tCall (spSame 3) [] E0 (tCons ta (tCons tb tNil))) σ H (.bl true) := fun H1 e Q q => h1 H1 e _ fun H2 e2 => h2 H2 (Ex.trans e e2) _ fun p' ys H3 np e3 hp' hy' hys => by
  have s3 := Ex.trans e (Ex.trans e2 e3)
  exact ⟨.ref p, .ref p', rfl, same_LLf (s3 _ _ hp) (fun z hzz => s3 _ _ (hz z hzz)) hp' hys hy'.symm hl hn, fun H4 s4 => q H4 (Ex.trans e2 (Ex.trans e3 s4))⟩
theorem ev_sameLL2 {xss : List (List V)} (h1 : EvLL ta σ H xss) (h2 : EvLL tb σ H xss) (hl : xss.length ≤ 40000) (hn : ∀ z ∈ xss, z.length ≤ 40000 ∧ ∀ x ∈ z, flt x) :
    Ev (tCall (spSame 3) [] E0 (tCons ta (tCons tb tNil))) σ H (.bl true) := fun H1 e Q q => h1 H1 e _ fun p zs H2 np e2 hp hz hzs => h2 H2 (Ex.trans e e2) _ fun p' ys H3 np' e3 hp' hy' hys =>
  ⟨.ref p, .ref p', rfl, same_LLf (e3 _ _ hp) (fun z hzz => e3 _ _ (hzs z hzz)) hp' hys (hz.trans hy'.symm) (by have := congrArg List.length hz; rw [List.length_map] at this; omega) (fun z hzz => hn _ (by rw [← hz]; exact List.mem_map.mpr ⟨z, hzz, rfl⟩)), fun H4 s4 => q H4 (Ex.trans e2 (Ex.trans e3 s4))⟩
theorem q_asgLL {D : Ends} {tz : TS} {i : Nat} {xss : List (List V)} (h : EvLL te σ H xss) (k : ∀ p zs H1, H p = none → Ex H H1 → H1 p = some (.lst (frs zs)) → zs.map (fun z => z.2) = xss → (∀ z ∈ zs, H1 z.1 = some (.lst z.2)) → tz D (σ.set i (some (.ref p))) H1) : tSeq (tAsg te (gName i)) tz D σ H :=
  h H (Ex.refl H) _ fun p zs H1 np e h1 h2 h3 => k p zs H1 np e h1 h2 h3
end
theorem go_tup2 {ta tb : TE} {σ : L2.St} {H : Hp} {Q : VK} (h : ta σ H fun v1 H1 => tb σ H1 fun v2 H2 => 2 ≤ sizeLine ∧ ∀ p, H2 p = none → Q (.ref p) (upd H2 p (.tup [v1, v2]))) : tTup (tCons ta (tCons tb tNil)) σ H Q := h
theorem go_tup3 {ta tb tc : TE} {σ : L2.St} {H : Hp} {Q : VK} (h : ta σ H fun v1 H1 => tb σ H1 fun v2 H2 => tc σ H2 fun v3 H3 => 3 ≤ sizeLine ∧ ∀ p, H3 p = none → Q (.ref p) (upd H3 p (.tup [v1, v2, v3]))) : tTup (tCons ta (tCons tb (tCons tc tNil))) σ H Q := h
end Lm
namespace Lm
open PySem L2 Evl RZ
/-- what a way of joining keeps -/
def opOf (d : Int) (a b : Bool) : Bool := if d = 1 then a || b else a && (b == decide (d = 0))
structure SfE (K : PySem.W.Frag) (CE : Addr) : Prop where
  sf_Edition : PySem.W.selfFirst K CE = true
section
variable {K : PySem.W.Frag} {CW CE : Addr} {σ : L2.St} {H : Hp} {ta tb te : TE}
def spLt (CW CE : Addr) : Sp := fun vs H Q _ => ∃ (a b wk wk' : Addr) (nm : Str) (ws : List Str) (S T : Nat → Bool), vs = [.ref a, .ref b] ∧ EdAt CW CE H a wk nm ws S ∧ EdAt CW CE H b wk' nm ws T ∧ WOk ws ∧
  ∀ H', Same H H' → Q (.bl ((idx ws.length S).all T && decide (cnt S ws.length < cnt T ws.length))) H'
theorem ev_leE {a b wk wk' : Addr} {nm : Str} {ws : List Str} {S T : Nat → Bool} (h1 : Ev ta σ H (.ref a)) (h2 : Ev tb σ H (.ref b)) (ha : EdAt CW CE H a wk nm ws S) (hb : EdAt CW CE H b wk' nm ws T) (hw : WOk ws) :
    Ev (tOp (rBinOwn CE (spLe CW CE) E0) ta tb) σ H (.bl ((idx ws.length S).all T)) := fun H1 e1 Q k => h1 H1 e1 _ fun H2 e2 => h2 H2 (Ex.trans e1 e2) _ fun H3 e3 => by
  have s3 := Ex.trans e1 (Ex.trans e2 e3)
  have ha3 := ha.same s3
  have hb3 := hb.same s3
  obtain ⟨dx, t, u, v, o1, _⟩ := id ha3.ob
  obtain ⟨dy, t', u', v', o2, _⟩ := id hb3.ob
  exact ⟨a, dx, _, b, dy, _, rfl, rfl, o1, o2, a, b, wk, wk', nm, ws, S, T, rfl, ha3, hb3, hw, fun H' e => k H' (Ex.trans e2 (Ex.trans e3 e))⟩
theorem ev_ltE {a b wk wk' : Addr} {nm : Str} {ws : List Str} {S T : Nat → Bool} (h1 : Ev ta σ H (.ref a)) (h2 : Ev tb σ H (.ref b)) (ha : EdAt CW CE H a wk nm ws S) (hb : EdAt CW CE H b wk' nm ws T) (hw : WOk ws) :
    Ev (tOp (rBinOwn CE (spLt CW CE) E0) ta tb) σ H (.bl ((idx ws.length S).all T && decide (cnt S ws.length < cnt T ws.length))) := fun H1 e1 Q k => h1 H1 e1 _ fun H2 e2 => h2 H2 (Ex.trans e1 e2) _ fun H3 e3 => by
  have s3 := Ex.trans e1 (Ex.trans e2 e3)
  have ha3 := ha.same s3
  have hb3 := hb.same s3
  obtain ⟨dx, t, u, v, o1, _⟩ := id ha3.ob
  obtain ⟨dy, t', u', v', o2, _⟩ := id hb3.ob
  exact ⟨a, dx, _, b, dy, _, rfl, rfl, o1, o2, a, b, wk, wk', nm, ws, S, T, rfl, ha3, hb3, hw, fun H' e => k H' (Ex.trans e2 (Ex.trans e3 e))⟩
theorem el_edps {e wk : Addr} {nm : Str} {ws : List Str} {S : Nat → Bool} (h : Ev ta σ H (.ref e)) (he : EdAt CW CE H e wk nm ws S) : EvL (tMeth CE "passages" (spEdPs CW CE) [] E0 ta tNil) σ H ((pick ws S).map V.str) := fun H1 e1 Q q => h H1 e1 _ fun H2 e2 => by
  have k2 := he.same (Ex.trans e1 e2)
  obtain ⟨dx, t, u, v, o1, _⟩ := id k2.ob
  exact ⟨e, dx, _, rfl, o1, ed_no _ _ _ _ (by decide +kernel) (by decide +kernel) (by decide +kernel) (by decide +kernel), e, wk, nm, ws, S, rfl, k2, fun p H' np s hp => q p H' (fresh_back e2 np) (Ex.trans e2 s) hp⟩
theorem el_wkps {wk : Addr} {nm : Str} {ws : List Str} (h : Ev ta σ H (.ref wk)) (hk : WkAt CW H wk nm ws) : EvL (tMeth CW "passages" (spWkPs CW) [] E0 ta tNil) σ H (ws.map V.str) := fun H1 e1 Q q => h H1 e1 _ fun H2 e2 => by
  have k2 := hk.same (Ex.trans e1 e2)
  obtain ⟨dx, t, d, o1, _⟩ := id k2.ob
  exact ⟨wk, dx, _, rfl, o1, wk_no _ _ _ (by decide +kernel) (by decide +kernel) (by decide +kernel), wk, nm, ws, rfl, k2, fun p H' np s hp => q p H' (fresh_back e2 np) (Ex.trans e2 s) hp⟩
end
section
variable {P : Program} {w : World} {K : PySem.W.Frag} {mg : Str → Option Value} {base : Heap} {f : Addr} {fd : FuncData}
theorem ok_lt {CW CE fL : Addr} {fdL : FuncData} (F : Fun K "__lt__" "Edition.__lt__" s_Edition_lt f fd) (T : Blt mg) (W : EdTxt K CE) (M_Edition_le : MetOk P w K mg base 4 CE "__le__" fL fdL ["self", "other"] (spLe CW CE)) : FnOk P w K mg base CX0 5 f fd ["self", "other"] (spLt CW CE) := by
  refine F.ok sc_Edition_lt (fun vs H Q E h => ?_) (fun cdv A outer s H vs Q E hr h => ?_)
  · obtain ⟨a, b, wk, wk', nm, ws, S, U, rfl, _⟩ := h
    rfl
  · obtain ⟨a, b, wk, wk', nm, ws, S, U, rfl, he, hf, hw, k⟩ := h
    have len : ∀ {H1 : Hp} {te : TE} {σ : L2.St} {e wk : Addr} {S : Nat → Bool}, Ev te σ H1 (.ref e) → EdAt CW CE H1 e wk nm ws S → Ev (tCB (rLenS K) (tCons (tFld K te "words") tNil)) σ H1 (.int (cnt S ws.length : Nat)) := fun {H1 te σ e wk S} h he => by
      obtain ⟨dx, t, u, v, o1, o2, _⟩ := id he.ob
      refine ev_is (ev_lenT (ev_fld h o1 W.cl W.nW (ed_words _ _ _ _)) o2) ?_
      rw [List.length_map, pick_len]
    refine ⟨_, (pss_one (ps_ret (pe_and (pe_cmpR (M_Edition_le.le (hr.mono (by decide))) (pv 0) (pv 1) (nomark _)) (pe_one (pe_cmpR op_lt (pe_callB call_len_seq (by rfl) T.b_len PySem.boot_len (pa_cons (pe_fld (pv 0) rfl) pa_nil)) (pe_callB call_len_seq (by rfl) T.b_len PySem.boot_len (pa_cons (pe_fld (pv 1) rfl) pa_nil)) (nomark _)))))), ?_⟩
    exact s_ret (ev_andV (ev_leE (ev_var rfl) (ev_var rfl) he hf hw) fun _ => ev_is (ev_op (len (ev_var rfl) he) (len (ev_var rfl) hf) rv_I0) (by congr 1; exact decide_eq_decide.mpr Int.ofNat_lt)) fun H1 e1 => k H1 e1
def spJoined (CW CE : Addr) : Sp := fun vs H Q _ => ∃ (d : Int) (a b wk wk' : Addr) (nm : Str) (ws : List Str) (S T : Nat → Bool), vs = [.int d, .ref a, .ref b] ∧ EdAt CW CE H a wk nm ws S ∧ EdAt CW CE H b wk' nm ws T ∧ WOk ws ∧
  ∀ p H', H p = none → Same H H' → EdAt CW CE H' p wk nm ws (fun i => opOf d (S i) (T i)) → Q (.ref p) H'
abbrev s_joined : Stmt := top 28
theorem sc_joined : FnScope ["_law_way", "_law_x", "_law_y"] ["_law_way", "_law_x", "_law_y"] (defScope s_joined) := ⟨rfl, rfl, rfl, by decide +kernel, rfl, by decide +kernel, by decide +kernel⟩
theorem ok_joined {CW CE f1 f2 f3 : Addr} {d1 d2 d3 : FuncData} (F : Fun K "_law_joined" "_law_joined" s_joined f fd) (T : SfE K CE) (M_Edition_and : MetOk P w K mg base 6 CE "__and__" f1 d1 ["self", "other"] (spJoin CW CE fun a b => a && b))
    (M_Edition_or : MetOk P w K mg base 6 CE "__or__" f2 d2 ["self", "other"] (spJoin CW CE fun a b => a || b)) (M_Edition_sub : MetOk P w K mg base 6 CE "__sub__" f3 d3 ["self", "other"] (spJoin CW CE fun a b => a && !b)) : FnOk P w K mg base CX0 7 f fd ["_law_way", "_law_x", "_law_y"] (spJoined CW CE) := by
  refine F.ok sc_joined (fun vs H Q E h => ?_) (fun cdv A outer s H vs Q E hr h => ?_)
  · obtain ⟨d, a, b, wk, wk', nm, ws, S, U, rfl, _⟩ := h
    rfl
  · obtain ⟨d, a, b, wk, wk', nm, ws, S, U, rfl, he, hf, hw, k⟩ := h
    obtain ⟨dx, t, u, v, o1, _⟩ := id he.ob
    obtain ⟨dy, t', u', v', o2, _⟩ := id hf.ob
    refine ⟨_, (pss_one (ps_ret (pe_ifExp (pt_cmpR op_eq (pv 0) pe_int (nomark _)) (pe_op (M_Edition_and.bin T.sf_Edition (hr.mono (by decide))) (pv 1) (pv 2)) (pe_ifExp (pt_cmpR op_eq (pv 0) pe_int (nomark _)) (pe_op (M_Edition_or.bin T.sf_Edition (hr.mono (by decide))) (pv 1) (pv 2)) (pe_op (M_Edition_sub.bin T.sf_Edition (hr.mono (by decide))) (pv 1) (pv 2)))))), ?_⟩
    refine ⟨_, rfl, rfl, _, rfl, ite2 (fun h0 => ?_) (fun h0 => ⟨_, rfl, rfl, _, rfl, ite2 (fun h1 => ?_) (fun h1 => ?_)⟩)⟩
    · have e0 : d = 0 := V.int.inj (of_decide_eq_true h0)
      exact ⟨_, rfl, _, rfl, a, dx, _, b, dy, _, rfl, rfl, o1, o2, a, b, wk, wk', nm, ws, S, U, rfl, he, hf, hw, fun p H' np e hp => k p H' np e (hp.congr fun i _ => by subst e0; simp [opOf])⟩
    · have e1 : d = 1 := V.int.inj (of_decide_eq_true h1)
      exact ⟨_, rfl, _, rfl, a, dx, _, b, dy, _, rfl, rfl, o1, o2, a, b, wk, wk', nm, ws, S, U, rfl, he, hf, hw, fun p H' np e hp => k p H' np e (hp.congr fun i _ => by subst e1; simp [opOf])⟩
    · have e0 : ¬ d = 0 := fun z => h0 (decide_eq_true (congrArg V.int z))
      have e1 : ¬ d = 1 := fun z => h1 (decide_eq_true (congrArg V.int z))
      exact ⟨_, rfl, _, rfl, a, dx, _, b, dy, _, rfl, rfl, o1, o2, a, b, wk, wk', nm, ws, S, U, rfl, he, hf, hw, fun p H' np e hp => k p H' np e (hp.congr fun i _ => by simp [opOf, e0, e1])⟩
def spDueJ : Sp := fun vs H Q _ => ∃ (d : Int) (l1 l2 : Addr) (N : Nat) (S T : Nat → Bool), vs = [.int d, .ref l1, .ref l2, .int N] ∧ H l1 = some (.lst (nts (idx N S))) ∧ H l2 = some (.lst (nts (idx N T))) ∧ N ≤ 60 ∧
  ∀ p H', H p = none → Same H H' → H' p = some (.lst (nts (idx N fun i => opOf d (S i) (T i)))) → Q (.ref p) H'
abbrev s_due : Stmt := top 29
theorem sc_due : FnScope ["_law_way", "_law_some", "_law_others", "_law_many_here", "_law_k"] ["_law_way", "_law_some", "_law_others", "_law_many_here"] (defScope s_due) := ⟨rfl, rfl, rfl, by decide +kernel, rfl, by decide +kernel, by decide +kernel⟩
theorem dec_idx {N k : Nat} {S : Nat → Bool} (h : k < N) : decide (k ∈ idx N S) = S k := by
  rw [show decide (k ∈ idx N S) = decide (k < N ∧ S k = true) from decide_eq_decide.mpr idx_mem]
  simp [h]
theorem ok_due (F : Fun K "_law_due" "_law_due" s_due f fd) (T : Blt mg) : FnOk P w K mg base CX0 1 f fd ["_law_way", "_law_some", "_law_others", "_law_many_here"] spDueJ := by
  refine F.ok sc_due (fun vs H Q E h => ?_) (fun cdv A outer s H vs Q E hr h => ?_)
  · obtain ⟨d, l1, l2, N, S, U, rfl, _⟩ := h
    rfl
  · obtain ⟨d, l1, l2, N, S, U, rfl, h1, h2, hN, k⟩ := h
    refine ⟨_, (pss_cons (ps_if (pt_cmpR op_eq (pv 0) pe_int (nomark _)) (pss_one (ps_ret (pe_lc (own := [("_law_k", 4)]) (g := gName 4) (tt := (tOr (tTest (tOp (rIn K false) (tVar 4) (tVar 1))) (tTest (tOp (rIn K false) (tVar 4) (tVar 2))))) (te := (tVar 4)) rfl sc_due.nd (pi_range1 rfl T.b_range (pa_cons (pv 3) pa_nil)) (blkOk_by (own := [("_law_k", 4)]) (by kernel_rfl)) (fun _ _ _ _ _ => (pg_name (i := 4) sc_due.nd rfl (by first | exact Or.inl rfl | exact Or.inr rfl))) (fun _ _ _ _ _ => by exact (pts_one (PW.pt (pw_or (pt_cmpR op_in_seq (pv 4) (pv 1) (by rfl)) (pw_or1 (pt_cmpR op_in_seq (pv 4) (pv 2) (by rfl))))))) (fun _ _ _ _ _ => by exact (pv 4))))) pss_nil)
        (pss_one (ps_ret (pe_lc (own := [("_law_k", 4)]) (g := gName 4) (tt := (tTest (tOp rEq (tOp (rIn K false) (tVar 4) (tVar 2)) (tOp rEq (tVar 0) (tC (.int 0)))))) (te := (tVar 4)) rfl sc_due.nd (pi_list (pv 1)) (blkOk_by (own := [("_law_k", 4)]) (by kernel_rfl)) (fun _ _ _ _ _ => (pg_name (i := 4) sc_due.nd rfl (by first | exact Or.inl rfl | exact Or.inr rfl))) (fun _ _ _ _ _ => by exact (pts_one (pt_cmpR op_eq (pe_cmpR op_in_seq (pv 4) (pv 2) (by rfl)) (pe_cmpR op_eq (pv 0) pe_int (nomark _)) (nomark _)))) (fun _ _ _ _ _ => by exact (pv 4)))))), ?_⟩
    have isin : ∀ {H1 : Hp} {j l : Addr} {i n : Nat} {A : Nat → Bool} {σ : L2.St}, H1 l = some (.lst (nts (idx N A))) → σ[4]? = some (some (.int (n : Nat))) → σ[i]? = some (some (.ref l)) → n < N → Ev (tOp (rIn K false) (tVar 4) (tVar i)) σ H1 (.bl (A n)) := fun hl s4 si hn => by
      refine ev_is (ev_op (ev_var s4) (ev_var si) (rv_isL (SqL.of hl) rfl (nts_flat _))) ?_
      rw [nts_in, dec_idx hn]
    refine q_when (b := decide (d = 1)) (et_test (ev_is (ev_op (ev_var rfl) ev_c (rv_eq rfl)) ?_)) (fun hd H1 e1 => ?_) (fun hd H1 e1 => ?_)
    · congr 1
      exact decide_eq_decide.mpr ⟨fun z => V.int.inj z, fun z => by rw [z]⟩
    · have hd : d = 1 := of_decide_eq_true hd
      refine s_retL (el_filR (n := N) (f := fun i => opOf d (S i) (U i)) (ea_cons (ev_var rfl) ea_nil) (by omega) (fun n hn H2 e2 => ?_) (by show 4 < 5; decide)) fun p H2 np e2 hp => k p H2 (Same.free e1 np) (Same.trans e1 e2) hp
      have E2 := Ex.trans e1 e2
      refine et_is (et_or (et_test (isin (j := l1) (E2 _ _ h1) rfl rfl hn)) fun _ => et_test (isin (j := l2) (E2 _ _ h2) rfl rfl hn)) ?_
      simp [opOf, hd]
    · have hd : ¬ d = 1 := of_decide_eq_false hd
      have hl := idx_len N S
      have := el_filL (K := K) (σ := [some (V.int d), some (.ref l1), some (.ref l2), some (.int N), none]) (H := H1) (tl := tVar 1) (j := 4) (tt := (tTest (tOp rEq (tOp (rIn K false) (tVar 4) (tVar 2)) (tOp rEq (tVar 0) (tC (.int 0)))))) (l := idx N S) (p := fun n => U n == decide (d = 0)) (ev_var rfl) (e1 _ _ h1) (by omega) (fun n hn H2 e2 => ?_) (by show 4 < 5; decide)
      · rw [filter_and] at this
        have e3 : (fun i => S i && (U i == decide (d = 0))) = fun i => opOf d (S i) (U i) := funext fun i => by simp [opOf, hd]
        rw [e3] at this
        exact s_retL this fun p H2 np e2 hp => k p H2 (Same.free e1 np) (Same.trans e1 e2) hp
      · have E2 := Ex.trans e1 e2
        refine et_test (ev_is (ev_op (isin (j := l2) (E2 _ _ h2) rfl rfl (idx_mem.mp hn).1) (ev_is (w := .bl (decide (d = 0))) (ev_op (ev_var rfl) ev_c (rv_eq rfl)) ?_) (rv_eq rfl)) ?_)
        · congr 1
          exact decide_eq_decide.mpr ⟨fun z => V.int.inj z, fun z => by rw [z]⟩
        · congr 1
          cases U n <;> cases decide (d = 0) <;> rfl
def spOrd (CW CE : Addr) : Sp := fun vs H Q _ => ∃ (a b wk wk' : Addr) (nm : Str) (ws : List Str) (S T : Nat → Bool), vs = [.ref a, .ref b] ∧ EdAt CW CE H a wk nm ws S ∧ EdAt CW CE H b wk' nm ws T ∧ WOk ws ∧
  ∀ p H', H p = none → Same H H' → H' p = some (.lst [.bl ((idx ws.length S).all T), .bl ((idx ws.length S).all T && decide (cnt S ws.length < cnt T ws.length))]) → Q (.ref p) H'
abbrev s_ordered : Stmt := top 30
theorem sc_ordered : FnScope ["_law_x", "_law_y"] ["_law_x", "_law_y"] (defScope s_ordered) := ⟨rfl, rfl, rfl, by decide +kernel, rfl, by decide +kernel, by decide +kernel⟩
theorem ok_ordered {CW CE f1 f2 : Addr} {d1 d2 : FuncData} (F : Fun K "_law_ordered" "_law_ordered" s_ordered f fd) (M_Edition_le : MetOk P w K mg base 4 CE "__le__" f1 d1 ["self", "other"] (spLe CW CE)) (M_Edition_lt : MetOk P w K mg base 5 CE "__lt__" f2 d2 ["self", "other"] (spLt CW CE)) : FnOk P w K mg base CX0 6 f fd ["_law_x", "_law_y"] (spOrd CW CE) := by
  refine F.ok sc_ordered (fun vs H Q E h => ?_) (fun cdv A outer s H vs Q E hr h => ?_)
  · obtain ⟨a, b, wk, wk', nm, ws, S, U, rfl, _⟩ := h
    rfl
  · obtain ⟨a, b, wk, wk', nm, ws, S, U, rfl, he, hf, hw, k⟩ := h
    refine ⟨_, (pss_one (ps_ret (pe_lst (pa_cons (pe_cmpR (M_Edition_le.le (hr.mono (by decide))) (pv 0) (pv 1) (nomark _)) (pa_cons (pe_cmpR (M_Edition_lt.lt (hr.mono (by decide))) (pv 0) (pv 1) (nomark _)) pa_nil))))), ?_⟩
    exact s_retL (el_lst (ea_cons (ev_leE (ev_var rfl) (ev_var rfl) he hf hw) (ea_cons (ev_ltE (ev_var rfl) (ev_var rfl) he hf hw) ea_nil)) (by show 2 ≤ 100000; decide)) fun p H1 np e1 hp => k p H1 np e1 hp
end
end Lm

namespace Lm
open PySem L2 Evl RZ
theorem wl {σ : L2.St} {j : Nat} {x : Option V} : ((wipe σ [j]).set j x).length = σ.length := by
  show ((σ.set j none).set j x).length = _
  simp
def nth (Ss : List (Nat → Bool)) (i : Nat) : Nat → Bool := Ss.getD i (fun _ => false)
theorem nth_of {Ss : List (Nat → Bool)} {i : Nat} {S : Nat → Bool} (h : Ss[i]? = some S) : nth Ss i = S := by
  unfold nth
  rw [List.getD_eq_getElem?_getD, h]
  rfl
theorem nth_of_lt {Ss : List (Nat → Bool)} {i : Nat} (h : i < Ss.length) : Ss[i]? = some (nth Ss i) := by
  unfold nth
  rw [List.getD_eq_getElem?_getD, List.getElem?_eq_getElem h]
  rfl
/-- what stands in a turn of the law -/
structure JI (CW CE T0 : Addr) (q : Str) (st c r bl b1 b2 ml dl : Addr) (ws : List Str) (es ds : List Addr) (Ss : List (Nat → Bool)) (H : Hp) : Prop where
  S : StAt H st c
  T : LamX.Tabs [(T0, q)] H
  hr : H r = some (.lst (ws.map V.str))
  hb : H bl = some (.lst (refs [b1, b2]))
  k1 : WkAt CW H b1 "a" ws
  k2 : WkAt CW H b2 "a" ws
  ns : r ≠ st ∧ bl ≠ st ∧ ml ≠ st ∧ dl ≠ st
  nm : r ≠ ml ∧ bl ≠ ml ∧ dl ≠ ml ∧ c ≠ ml
  nd : r ≠ dl ∧ bl ≠ dl ∧ c ≠ dl
  hm : H ml = some (.lst (refs es))
  hd : H dl = some (.lst (refs ds))
  lE : es.length = Ss.length
  lD : ds.length = Ss.length
  aE : ∀ (i : Nat) e S, es[i]? = some e → Ss[i]? = some S → ∃ wk, EdAt CW CE H e wk "a" ws S
  aD : ∀ (i : Nat) d S, ds[i]? = some d → Ss[i]? = some S → (d ≠ st ∧ d ≠ ml ∧ d ≠ dl) ∧ H d = some (.lst (nts (idx ws.length S)))
section
variable {CW CE T0 : Addr} {q : Str} {st c r bl b1 b2 ml dl : Addr} {ws : List Str} {es ds : List Addr} {Ss : List (Nat → Bool)} {H H' : Hp}
theorem JI.same (j : JI CW CE T0 q st c r bl b1 b2 ml dl ws es ds Ss H) (e : Same H H') : JI CW CE T0 q st c r bl b1 b2 ml dl ws es ds Ss H' :=
  ⟨j.S.same e, j.T.ext e, e _ _ j.hr, e _ _ j.hb, j.k1.same e, j.k2.same e, j.ns, j.nm, j.nd, e _ _ j.hm, e _ _ j.hd, j.lE, j.lD, fun i x S h1 h2 => let ⟨w, h⟩ := j.aE i x S h1 h2; ⟨w, h.same e⟩, fun i x S h1 h2 => let ⟨a, h⟩ := j.aD i x S h1 h2; ⟨a, e _ _ h⟩⟩
theorem JI.kp (j : JI CW CE T0 q st c r bl b1 b2 ml dl ws es ds Ss H) (e : Kp st H H') (S' : StAt H' st c) : JI CW CE T0 q st c r bl b1 b2 ml dl ws es ds Ss H' := by
  obtain ⟨xs, hs⟩ := j.S.lst
  obtain ⟨n1, n2, n3, n4⟩ := j.ns
  exact ⟨S', Tabs_kp j.T e hs, e _ _ n1 j.hr, e _ _ n2 j.hb, j.k1.kp e hs, j.k2.kp e hs, j.ns, j.nm, j.nd, e _ _ n3 j.hm, e _ _ n4 j.hd, j.lE, j.lD, fun i x S h1 h2 => let ⟨w, h⟩ := j.aE i x S h1 h2; ⟨w, h.kp e hs⟩, fun i x S h1 h2 => let ⟨a, h⟩ := j.aD i x S h1 h2; ⟨a, e _ _ a.1 h⟩⟩
/-- an edition and its numbers more -/
theorem JI.add {p wk qa : Addr} {S : Nat → Bool} {H1 H2 : Hp} (j : JI CW CE T0 q st c r bl b1 b2 ml dl ws es ds Ss H) (hp : EdAt CW CE H p wk "a" ws S) (eH : upd H ml (.lst (refs (es ++ [p]))) = H1) (nq : H1 qa = none) (e2 : Same H1 H2) (hq : H2 qa = some (.lst (nts (idx ws.length S)))) :
    JI CW CE T0 q st c r bl b1 b2 ml dl ws (es ++ [p]) (ds ++ [qa]) (Ss ++ [S]) (upd H2 dl (.lst (refs (ds ++ [qa])))) := by
  subst eH
  obtain ⟨n1, n2, n3, n4⟩ := j.ns
  obtain ⟨m1, m2, m3, m4⟩ := j.nm
  obtain ⟨o1, o2, o3⟩ := j.nd
  have hd1 : (upd H ml (.lst (refs (es ++ [p])))) dl = some (.lst (refs ds)) := by rw [upd_ne m3]; exact j.hd
  have hd2 := e2 _ _ hd1
  have hm2 : H2 ml = some (.lst (refs (es ++ [p]))) := e2 _ _ upd_same
  have pass : ∀ b o, b ≠ ml → b ≠ dl → H b = some o → (upd H2 dl (.lst (refs (ds ++ [qa])))) b = some o := fun b o h1 h2 h => by rw [upd_ne h2]; exact e2 _ _ (by rw [upd_ne h1]; exact h)
  have kE : ∀ {e wk S}, EdAt CW CE H e wk "a" ws S → EdAt CW CE (upd H2 dl (.lst (refs (ds ++ [qa])))) e wk "a" ws S := fun h => ((h.kp (Kp.upd _ _ _) j.hm).same e2).kp (Kp.upd _ _ _) hd2
  have kW : ∀ {e}, WkAt CW H e "a" ws → WkAt CW (upd H2 dl (.lst (refs (ds ++ [qa])))) e "a" ws := fun h => ((h.kp (Kp.upd _ _ _) j.hm).same e2).kp (Kp.upd _ _ _) hd2
  refine ⟨((j.S.mut n3 (Ne.symm m4)).same e2).mut n4 (Ne.symm o3), Tabs_mut ((Tabs_mut j.T j.hm).ext e2) hd2, pass _ _ m1 o1 j.hr, pass _ _ m2 o2 j.hb, kW j.k1, kW j.k2, j.ns, j.nm, j.nd, by rw [upd_ne (Ne.symm m3)]; exact hm2, upd_same, by simp [j.lE], by simp [j.lD], ?_, ?_⟩
  · exact app_at (P := fun x S => ∃ wk, EdAt CW CE _ x wk "a" ws S) j.lE (fun i x y hx hy => let ⟨w, h⟩ := j.aE i x y hx hy; ⟨w, kE h⟩) ⟨wk, kE hp⟩
  · refine app_at (P := fun d S => (d ≠ st ∧ d ≠ ml ∧ d ≠ dl) ∧ _ = some (HO.lst (nts (idx ws.length S)))) j.lD (fun i x y hx hy => ?_) ?_
    · obtain ⟨⟨a1, a2, a3⟩, h⟩ := j.aD i x y hx hy
      exact ⟨⟨a1, a2, a3⟩, pass _ _ a2 a3 h⟩
    · have q1 : qa ≠ ml := (ne_of_none upd_same nq).symm
      have nqH : H qa = none := by rw [upd_ne q1] at nq; exact nq
      have q2 : qa ≠ dl := (ne_of_none j.hd nqH).symm
      exact ⟨⟨(j.S.of_new nqH).1, q1, q2⟩, by rw [upd_ne q2]; exact hq⟩
end
section
variable {CW CE T0 : Addr} {q : Str} {K : PySem.W.Frag} {σ : L2.St} {H : Hp} {ws : List Str} {st c r bl b1 b2 dl : Addr}
/-- the five lists of numbers -/
theorem dues6 {N : Nat} (s1 : σ[1]? = some (some (.ref st))) (s5 : σ[5]? = some (some (.int (N : Nat)))) (sl : 8 < σ.length) (S0 : StAt H st c) (hw : N ≤ 60) (Q : VK)
    (k : ∀ p ds (Ss : List (Nat → Bool)) H', H p = none → p ≠ st → H' p = some (.lst (refs ds)) → ds.length = 5 → ds.length = Ss.length → (∀ (i : Nat) d S, ds[i]? = some d → Ss[i]? = some S → (d ≠ st ∧ d ≠ p) ∧ H' d = some (.lst (nts (idx N S)))) → StAt H' st c → Kp st H H' → Q (.ref p) H') :
    (tOp rCat (tLc (iRng1 (tCons (tC (.int 3)) tNil)) (gName 8) tYes (tCall spKept [] E0 (tCons (tVar 1) (tCons (tVar 5) tNil))) [8]) (tLst (tCons (tLst tNil) (tCons (tLstRg (tRg1 (tVar 5))) tNil)))) σ H Q := by
  refine go_op ?_
  refine ⟨_, rfl, by decide, by decide, fun D nD => ?_⟩
  have hDs := (S0.of_new nD).1
  have hDc := (S0.of_new nD).2
  refine lc_range (lo := 0) (n := 3) (fun i H' => StAt H' st c ∧ Kp st H H' ∧ ∃ ds Ss, ds.length = i ∧ ds.length = Ss.length ∧ H' D = some (.lst (refs ds)) ∧ ∀ (i : Nat) d S, ds[i]? = some d → Ss[i]? = some S → (d ≠ st ∧ d ≠ D) ∧ H' d = some (.lst (nts (idx N S)))) ⟨S0.same (Same.upd' nD), Kp.of (Same.upd' nD), [], [], rfl, rfl, upd_same, fun i d S h _ => by simp at h⟩ ?_ ?_
  · rintro i H' hi ⟨S', e, ds, Ss, hds, hl, hD, hN⟩
    refine ⟨wipe1 σ 8 _, _, wv (by decide) s1, _, wv (by decide) s5, st, c, N, rfl, S', hw, fun p B H4 np S4 e4 h4 => ?_⟩
    have hps := (S'.of_new np).1
    have hDp : D ≠ p := ne_of_none hD np
    have hD4 := e4 _ _ hDs hD
    refine ⟨_, hD4, small1000 (by rw [refs_len]; omega), S4.mut hDs hDc, Kp.mut (e.trans e4) nD, ds ++ [p], Ss ++ [B], by simp [hds], by simp [hl], by rw [upd_same]; simp [refs], ?_⟩
    refine app_at (P := fun d S => (d ≠ st ∧ d ≠ D) ∧ (upd H4 D (.lst (refs ds ++ [.ref p]))) d = some (.lst (nts (idx N S)))) hl (fun i x y hx hy => ?_) ⟨⟨hps, hDp.symm⟩, by rw [upd_ne hDp.symm]; exact h4⟩
    obtain ⟨⟨q1, q2⟩, q3⟩ := hN i x y hx hy
    exact ⟨⟨q1, q2⟩, by rw [upd_ne q2]; exact e4 _ _ q1 q3⟩
  · rintro H' ⟨S', e, ds, Ss, hds, hl, hD, hN⟩
    refine ⟨by show 0 ≤ sizeLine; decide, fun l1 n1 => ?_⟩
    have u1 := Same.upd' n1 (o := .lst [])
    have h1 : (upd H' l1 (.lst [])) l1 = some (.lst []) := upd_same
    generalize upd H' l1 (.lst []) = H1 at u1 h1
    refine el_rg (ev_var s5) ⟨by omega, by omega⟩ H1 (Ex.refl _) _ fun l2 H2 n2 e2 h2 => ⟨by show 2 ≤ sizeLine; decide, fun l3 n3 => ?_⟩
    rw [Int.toNat_natCast] at h2
    have u3 := Same.upd' n3 (o := .lst [.ref l1, .ref l2])
    have h3 : (upd H2 l3 (.lst [.ref l1, .ref l2])) l3 = some (.lst (refs [l1, l2])) := upd_same
    generalize upd H2 l3 (.lst [.ref l1, .ref l2]) = H3 at u3 h3
    have e13 := Ex.trans u1 (Ex.trans e2 u3)
    refine ⟨D, l3, _, _, rfl, rfl, e13 _ _ hD, h3, sz_of (by rw [refs_len, refs_len, hds]; show 3 + 2 ≤ 100000; decide), fun p np => ?_⟩
    have su := Same.upd' np (o := .lst (refs ds ++ refs [l1, l2]))
    have e04 : Kp st H H' := e
    have npH' : H' p = none := Same.free e13 np
    have E := Ex.trans e13 su
    have pn : ∀ {b o}, H3 b = some o → b ≠ p := fun h => ne_of_none h np
    have n1' := S'.of_new n1
    have n2' := (S'.same u1).of_new n2
    refine k p (ds ++ [l1, l2]) (Ss ++ [fun _ => false, fun _ => true]) _ (e.free (S'.of_new npH').1 npH') (S'.of_new npH').1 (by rw [upd_same]; simp [refs]) (by simp [hds]) (by simp [hl]) ?_ (S'.same E) (e.trans (Kp.of E))
    refine cat_at (l := ds) (m := Ss) (l' := [l1, l2]) (m' := [fun _ => false, fun _ => true]) (P := fun d S => (d ≠ st ∧ d ≠ p) ∧ _ = some (HO.lst (nts (idx N S)))) hl (fun i x y hx hy => let ⟨a, b⟩ := hN i x y hx hy; ⟨⟨a.1, pn (e13 _ _ b)⟩, E _ _ b⟩) (fun i x y hx hy => ?_)
    match i, hx, hy with
    | 0, hx, hy => cases hx; cases hy; exact ⟨⟨n1'.1, pn (Ex.trans e2 u3 _ _ h1)⟩, by rw [idx_non]; exact Ex.trans e2 (Ex.trans u3 su) _ _ h1⟩
    | 1, hx, hy => cases hx; cases hy; exact ⟨⟨n2'.1, pn (u3 _ _ h2)⟩, by rw [idx_all]; exact Ex.trans u3 su _ _ h2⟩
    | i + 2, hx, hy => simp at hx
/-- rows[k] for k in numbers -/
theorem el_words {i j m : Nat} {a b : Addr} {S : Nat → Bool} (si : σ[i]? = some (some (.ref a))) (sm : σ[m]? = some (some (.ref b))) (hij : i ≠ j) (sl : j < σ.length) (ha : H a = some (.lst (ws.map V.str))) (hb : H b = some (.lst (nts (idx ws.length S)))) (hw : ws.length ≤ 60) :
    EvL (tLc (iList K (tVar m)) (gName j) tYes (tOp (rIxL K) (tVar i) (tVar j)) [j]) σ H ((pick ws S).map V.str) := by
  have hl := idx_len ws.length S
  have := el_mapL (K := K) (σ := σ) (H := H) (tl := tVar m) (te := tOp (rIxL K) (tVar i) (tVar j)) (j := j) (l := idx ws.length S) (f := fun n : Nat => V.int n) (g := fun n => .str (ws.getD n no)) (ev_var sm) hb (by omega) (fun n hn H1 e1 => ?_)
  · unfold pick
    rw [List.map_map]
    exact this
  · refine ev_op (ev_var (wv hij si)) (ev_var (wj sl)) (rv_ixL (SqL.of (e1 _ _ ha)) (at_of (j := n) rfl ?_))
    rw [List.getElem?_map, nth_at (idx_mem.mp hn).1]
    rfl
/-- the editions -/
theorem made6 {ds : List Addr} {Ss : List (Nat → Bool)} (s1 : σ[1]? = some (some (.ref st))) (s3 : σ[3]? = some (some (.ref r))) (s4 : σ[4]? = some (some (.ref bl))) (s6 : σ[6]? = some (some (.ref dl))) (sl : 18 < σ.length)
    (S0 : StAt H st c) (T : LamX.Tabs [(T0, q)] H) (hr : H r = some (.lst (ws.map V.str))) (hb : H bl = some (.lst (refs [b1, b2]))) (k1 : WkAt CW H b1 "a" ws) (k2 : WkAt CW H b2 "a" ws) (ns : r ≠ st ∧ bl ≠ st ∧ dl ≠ st) (nd : r ≠ dl ∧ bl ≠ dl ∧ c ≠ dl) (hd : H dl = some (.lst (refs ds))) (l5 : ds.length = 5) (lD : ds.length = Ss.length)
    (aD : ∀ (i : Nat) d S, ds[i]? = some d → Ss[i]? = some S → (d ≠ st ∧ d ≠ dl) ∧ H d = some (.lst (nts (idx ws.length S)))) (hw : WOk ws) (Q : VK)
    (k : ∀ ml es H', JI CW CE T0 q st c r bl b1 b2 ml dl ws es ds Ss H' → Q (.ref ml) H') :
    (tLc (iList K (tVar 6)) (gName 18) tYes (tMake CE (spEdInit CW CE) [] E0 (tCons (tCall (spOneA K) [] E0 (tCons (tVar 1) (tCons (tVar 4) tNil))) (tCons (tLc (iList K (tVar 18)) (gName 8) tYes (tOp (rIxL K) (tVar 3) (tVar 8)) [8]) tNil))) [18]) σ H Q := by
  obtain ⟨xs0, hst⟩ := S0.lst
  obtain ⟨n1, n2, n3⟩ := ns
  refine ⟨_, s6, dl, rfl, ⟨_, SqL.of hd⟩, fun D nD => ?_⟩
  have hDs := (S0.of_new nD).1
  have hDc := (S0.of_new nD).2
  refine lc_list (K := K) (a := dl) (xs := refs ds) (fun i H' => StAt H' st c ∧ Kp st H H' ∧ ∃ es, es.length = i ∧ H' D = some (.lst (refs es)) ∧ ∀ (j : Nat) e S, es[j]? = some e → (Ss.take i)[j]? = some S → ∃ wk, EdAt CW CE H' e wk "a" ws S) ⟨S0.same (Same.upd' nD), Kp.of (Same.upd' nD), [], rfl, upd_same, fun j e S h _ => by simp at h⟩ (fun i H' _ p => SqL.of (p.2.1 _ _ n3 hd)) ?_ ?_
  · rintro i x H' hx ⟨S', e, es, hes, hD, hE⟩
    obtain ⟨d, hdi, rfl⟩ := refs_inv hx
    have hi : i < ds.length := (List.getElem?_eq_some_iff.mp hdi).1
    obtain ⟨B, hB⟩ : ∃ B, Ss[i]? = some B := ⟨_, List.getElem?_eq_getElem (by rw [← lD]; exact hi)⟩
    obtain ⟨⟨hds, _⟩, hdn⟩ := aD i d B hdi hB
    refine ⟨wipe1 σ 18 _, _, wv (by decide) s1, _, wv (by decide) s4, st, c, bl, _, rfl, S', n2, .inl (SqL.of (e _ _ n2 hb)), by show 0 < 2; decide, by show 2 < _; decide, fun v H4 hv S4 e4 => ?_⟩
    have e04 : Kp st H H4 := e.trans e4
    obtain ⟨w', rfl, hwv⟩ : ∃ w', v = .ref w' ∧ WkAt CW H4 w' "a" ws := by
      have hv : v ∈ [V.ref b1, V.ref b2] := hv
      simp only [List.mem_cons, List.not_mem_nil, or_false] at hv
      rcases hv with rfl | rfl
      · exact ⟨_, rfl, k1.kp e04 hst⟩
      · exact ⟨_, rfl, k2.kp e04 hst⟩
    refine el_words (K := K) (i := 3) (j := 8) (m := 18) (ws := ws) (S := B) (wv (by decide) s3) (wj sl) (by decide) (by rw [wl]; omega) (e04 _ _ n1 hr) (e04 _ _ hds hdn) hw.l1 H4 (Ex.refl _) _ fun p H5 np e5 hp => ?_
    refine mkEd (R := fun x H' => ∃ acc, H' D = some (.lst acc) ∧ _) (hwv.same e5) hw (.inl hp) fun x H6 nx e6 he => ?_
    have hD6 := e6 _ _ (e5 _ _ (e4 _ _ hDs hD))
    have e46 := Same.trans e5 e6
    have S6 := S4.same e46
    refine ⟨_, hD6, small1000 (by rw [refs_len]; omega), S6.mut hDs hDc, Kp.mut (e04.trans (Kp.of e46)) nD, es ++ [x], by simp [hes], by rw [upd_same]; simp [refs], ?_⟩
    have nDe : ∀ {S : Nat → Bool} {a w' : Addr}, EdAt CW CE H6 a w' "a" ws S → EdAt CW CE (upd H6 D (.lst (refs es ++ [.ref x]))) a w' "a" ws S := fun q => q.kp (Kp.upd _ _ _) hD6
    rw [List.take_succ, hB]
    obtain ⟨xs1, hst1⟩ := S'.lst
    refine app_at (l := es) (m := Ss.take i) (P := fun e S => ∃ wk, EdAt CW CE (upd H6 D (.lst (refs es ++ [.ref x]))) e wk "a" ws S) (by rw [List.length_take, hes, ← lD]; omega) (fun j x y hx hy => ?_) ⟨_, nDe he⟩
    obtain ⟨w', q⟩ := hE j x y hx hy
    exact ⟨w', nDe ((q.kp e4 hst1).same e46)⟩
  · rintro H' ⟨S', e, es, hes, hD, hE⟩
    rw [refs_len] at hes hE
    have nDH := nD
    have hne : ∀ {b o}, H b = some o → b ≠ D := fun h => ne_of_none h nD
    exact k D es H' ⟨S', Tabs_kp T e hst, e _ _ n1 hr, e _ _ n2 hb, k1.kp e hst, k2.kp e hst, ⟨n1, n2, hDs, n3⟩, ⟨hne hr, hne hb, hne hd, let ⟨_, ⟨ns, h, _⟩, _⟩ := S0; hne h⟩, nd, hD, e _ _ n3 hd, by rw [hes, lD], lD, fun i x S h1 h2 => hE i x S h1 (by rw [lD, List.take_length]; exact h2), fun i x S h1 h2 => let ⟨a, b⟩ := aD i x S h1 h2; ⟨⟨a.1, hne b, a.2⟩, e _ _ a.1 b⟩⟩
end
end Lm

namespace Lm
open PySem L2 Evl RZ
abbrev qq : Str := "_law_refused.<locals>.<lambda>"
def spLawT (K : PySem.W.Frag) (T0 : Addr) : Sp := fun vs H Q _ => ∃ (a : Addr) (ns : List Int), vs = [.ref a] ∧ SqL K H a (ns.map V.int) ∧ ns.length ≤ 63 ∧ H T0 = some (.tbl #[]) ∧ ∀ H', Q (.bl true) H'
section
variable {P : Program} {w : World} {K : PySem.W.Frag} {mg : Str → Option Value} {base : Heap} {f : Addr} {fd : FuncData}
abbrev s_law : Stmt := top 32
theorem sc_law : FnScope ["_law_script", "_law_state", "_law_turn", "_law_rows", "_law_bases", "_law_many_here", "_law_dues", "_law_made", "_law_k", "_law_way", "_law_at", "_law_to", "_law_x", "_law_some", "_law_told", "_law_least", "_law_strange", "_law_y", "_law_due_here", "_law_others", "_law_is_in", "_law_n"] ["_law_script"] (defScope s_law) := ⟨rfl, rfl, rfl, by decide +kernel, rfl, by decide +kernel, by decide +kernel⟩
theorem ok_law {CW CE T0 f1 f2 f3 f4 f5 f6 f7 f8 f9 g1 g2 g3 g4 g5 g6 g7 g8 : Addr} {d1 d2 d3 d4 d5 d6 d7 d8 d9 c1 c2 c3 c4 c5 c6 c7 c8 : FuncData} (F : L2.Fun K "law" "law" s_law f fd) (T : LawTxtE K mg CW CE) (WT : WkTxt K CW) (TI : WkIsi K mg CW) (ET : EdTxt K CE) (EI : EdIsi K mg CE)
    (D_fresh : DefOk P w K mg base 1 "_law_fresh" f1 d1 ["_law_script"] (spFresh K)) (D_take : DefOk P w K mg base 2 "_law_take" f2 d2 ["_law_state", "_law_many_here"] spTake) (D_one : DefOk P w K mg base 3 "_law_one" f3 d3 ["_law_state", "_law_things"] (spOneA K)) (D_many : DefOk P w K mg base 4 "_law_many" f4 d4 ["_law_state"] spMany)
    (D_some_words : DefOk P w K mg base 3 "_law_some_words" f5 d5 ["_law_state", "_law_many_here"] spSomeWA) (D_kept : DefOk P w K mg base 4 "_law_kept" f6 d6 ["_law_state", "_law_many_here"] spKept) (D_joined : DefOk P w K mg base 7 "_law_joined" f7 d7 ["_law_way", "_law_x", "_law_y"] (spJoined CW CE))
    (D_due : DefOk P w K mg base 1 "_law_due" f8 d8 ["_law_way", "_law_some", "_law_others", "_law_many_here"] spDueJ) (D_ordered : DefOk P w K mg base 6 "_law_ordered" f9 d9 ["_law_x", "_law_y"] (spOrd CW CE)) (D_same : DefOk P w K mg base 3 "_law_same" g1 c1 ["_law_found", "_law_due_here"] (spSame 3)) (D_refused : DefOk P w K mg base 10 "_law_refused" g2 c2 ["_law_x", "_law_y"] (spRefusedO CW CE T0))
    (K_Work : ClsOk P w K mg base 2 "Work" CW g3 c3 ["self", "name", "passages"] (spWkInit CW)) (K_Edition : ClsOk P w K mg base 4 "Edition" CE g4 c4 ["self", "work", "passages"] (spEdInit CW CE)) (M_Work_passages : MetOk P w K mg base 1 CW "passages" g5 c5 ["self"] (spWkPs CW)) (M_Edition_passages : MetOk P w K mg base 1 CE "passages" g6 c6 ["self"] (spEdPs CW CE))
    (M_Work_eq : MetOk P w K mg base 1 CW "__eq__" g7 c7 ["self", "other"] (spWkEqA K CW)) (M_Edition_eq : MetOk P w K mg base 2 CE "__eq__" g8 c8 ["self", "other"] (spEdEqA K CW CE)) : FnOk P w K mg base CX0 12 f fd ["_law_script"] (spLawT K T0) := by
  refine F.ok sc_law (fun vs H Q E h => ?_) (fun cdv A outer s H vs Q E hr h => ?_)
  · obtain ⟨a, ns, rfl, _⟩ := h
    rfl
  · obtain ⟨a, ns, rfl, hS, hl, hT0, k⟩ := h
    have D_room : Room 3 _ := hr.mono (by decide)
    refine ⟨_, (pss_cons (ps_set (i := 1) sc_law.nd rfl (by first | exact Or.inl rfl | exact Or.inr rfl) (pe_d D_fresh (hr.mono (by decide)) (pa_cons (pv 0) pa_nil)))
        (pss_cons (ps_for PassesOwn.never rfl (pi_range1 rfl T.b_range (pa_cons pe_int pa_nil)) (pg_name (i := 2) sc_law.nd rfl (by first | exact Or.inl rfl | exact Or.inr rfl)) (pss_cons (ps_set (i := 3) sc_law.nd rfl (by first | exact Or.inl rfl | exact Or.inr rfl) (pe_d D_some_words (hr.mono (by decide)) (pa_cons (pv 1) (pa_cons (pe_d D_many (hr.mono (by decide)) (pa_cons (pv 1) pa_nil)) pa_nil))))
        (pss_cons (ps_asg (pe_tup (pa_cons (pe_lst (pa_cons (pe_mk K_Work (hr.mono (by decide)) (pa_cons pe_str (pa_cons (pv 3) pa_nil))) (pa_cons (pe_mk K_Work (hr.mono (by decide)) (pa_cons pe_str (pa_cons (pv 3) pa_nil))) pa_nil))) (pa_cons (pe_callB call_len_seq (by rfl) T.b_len PySem.boot_len (pa_cons (pv 3) pa_nil)) pa_nil))) (pg_tup rfl (pgs_cons (pg_name (i := 4) sc_law.nd rfl (by first | exact Or.inl rfl | exact Or.inr rfl)) (pgs_cons (pg_name (i := 5) sc_law.nd rfl (by first | exact Or.inl rfl | exact Or.inr rfl)) pgs_nil))))
        (pss_cons (ps_set (i := 6) sc_law.nd rfl (by first | exact Or.inl rfl | exact Or.inr rfl) (pe_op op_cat (pe_lc (own := [("_law_k", 8)]) (g := gName 8) (tt := tYes) (te := (tCall spKept [] E0 (tCons (tVar 1) (tCons (tVar 5) tNil)))) rfl sc_law.nd (pi_range1 rfl T.b_range (pa_cons pe_int pa_nil)) (blkOk_by (own := [("_law_k", 8)]) (by kernel_rfl)) (fun _ _ _ _ _ => (pg_name (i := 8) sc_law.nd rfl (by first | exact Or.inl rfl | exact Or.inr rfl))) (fun _ _ _ _ _ => pts_nil) (fun _ _ _ _ _ => by exact (pe_d D_kept (hr.mono (by decide)) (pa_cons (pv 1) (pa_cons (pv 5) pa_nil))))) (pe_lst (pa_cons (pe_lst pa_nil) (pa_cons (pe_listRg rfl rfl T.b_list (prg_1 rfl T.b_range (pv 5))) pa_nil)))))
        (pss_cons (ps_setLc (i := 7) (own := [("_law_due_here", 18)]) (g := gName 18) (tt := tYes) (te := (tMake CE (spEdInit CW CE) [] E0 (tCons (tCall (spOneA K) [] E0 (tCons (tVar 1) (tCons (tVar 4) tNil))) (tCons (tLc (iList K (tVar 18)) (gName 8) tYes (tOp (rIxL K) (tVar 3) (tVar 8)) [8]) tNil)))) rfl sc_law.nd rfl rfl (sw_true rfl rfl rfl (by decide +kernel)) (pi_list (pv 6)) (blkOk_by (own := [("_law_due_here", 18)]) (by kernel_rfl)) (fun _ _ _ _ _ => (pg_name (i := 18) sc_law.nd rfl (by first | exact Or.inl rfl | exact Or.inr rfl))) (fun _ _ _ _ _ => pts_nil) (fun _ _ _ _ _ => by exact (pe_mk K_Edition (hr.mono (by decide)) (by exact (pa_cons (pe_d D_one (hr.mono (by decide)) (pa_cons (pv 1) (pa_cons (pv 4) pa_nil))) (pa_cons (pe_lc (own := [("_law_k", 8)]) (g := gName 8) (tt := tYes) (te := (tOp (rIxL K) (tVar 3) (tVar 8))) rfl sc_law.nd (pi_list (pv 18)) (blkOk_by (own := [("_law_k", 8)]) (by kernel_rfl)) (fun _ _ _ _ _ => (pg_name (i := 8) sc_law.nd rfl (by first | exact Or.inl rfl | exact Or.inr rfl))) (fun _ _ _ _ _ => pts_nil) (fun _ _ _ _ _ => by exact (pe_ix ix_list (pv 3) (pv 8) (fun _ _ => rfl)))) pa_nil))))))
        (pss_cons (ps_for PassesOwn.never rfl (pi_range1 rfl T.b_range (pa_cons pe_int pa_nil)) (pg_name (i := 8) sc_law.nd rfl (by first | exact Or.inl rfl | exact Or.inr rfl)) (pss_cons (ps_par3 (i := 9) (j := 10) (l := 11) (by rfl) sc_law.nd rfl rfl rfl (by decide) (by decide) (by decide) rfl rfl rfl (pa_cons (pe_d D_take (hr.mono (by decide)) (pa_cons (pv 1) (pa_cons pe_int pa_nil))) (pa_cons (pe_d D_take (hr.mono (by decide)) (pa_cons (pv 1) (pa_cons (pe_callB call_len_seq (by rfl) T.b_len PySem.boot_len (pa_cons (pv 7) pa_nil)) pa_nil))) (pa_cons (pe_d D_take (hr.mono (by decide)) (pa_cons (pv 1) (pa_cons (pe_callB call_len_seq (by rfl) T.b_len PySem.boot_len (pa_cons (pv 7) pa_nil)) pa_nil))) pa_nil))) (by rfl))
        (pss_cons (ps_expr (pe_bm PySem.F.plainAttrs_list PySem.F.slot_list_append PySem.F.type_list_append mt_append (pv 7) (pa_cons (pe_d D_joined (hr.mono (by decide)) (pa_cons (pv 9) (pa_cons (pe_ix ix_list (pv 7) (pv 10) (fun _ _ => rfl)) (pa_cons (pe_ix ix_list (pv 7) (pv 11) (fun _ _ => rfl)) pa_nil)))) pa_nil)))
        (pss_cons (ps_expr (pe_bm PySem.F.plainAttrs_list PySem.F.slot_list_append PySem.F.type_list_append mt_append (pv 6) (pa_cons (pe_d D_due (hr.mono (by decide)) (pa_cons (pv 9) (pa_cons (pe_ix ix_list (pv 6) (pv 10) (fun _ _ => rfl)) (pa_cons (pe_ix ix_list (pv 6) (pv 11) (fun _ _ => rfl)) (pa_cons (pv 5) pa_nil))))) pa_nil)))
        (pss_one (ps_if (pt_not (pt_val (pe_d D_same D_room (by exact (pa_cons (pe_lc (own := [("_law_x", 12)]) (g := gName 12) (tt := tYes) (te := (tMeth CE "passages" (spEdPs CW CE) [] E0 (tVar 12) tNil)) rfl sc_law.nd (pi_list (pv 7)) (blkOk_by (own := [("_law_x", 12)]) (by kernel_rfl)) (fun _ _ _ _ _ => (pg_name (i := 12) sc_law.nd rfl (by first | exact Or.inl rfl | exact Or.inr rfl))) (fun _ _ _ _ _ => pts_nil) (fun _ _ _ _ _ => by exact (pe_m0 M_Edition_passages (hr.mono (by decide)) (pv 12)))) (pa_cons (pe_lc (own := [("_law_due_here", 18)]) (g := gName 18) (tt := tYes) (te := (tLc (iList K (tVar 18)) (gName 21) tYes (tOp (rIxL K) (tVar 3) (tVar 21)) [21])) rfl sc_law.nd (pi_list (pv 6)) (blkOk_by (own := [("_law_due_here", 18)]) (by kernel_rfl)) (fun _ _ _ _ _ => (pg_name (i := 18) sc_law.nd rfl (by first | exact Or.inl rfl | exact Or.inr rfl))) (fun _ _ _ _ _ => pts_nil) (fun _ _ _ _ _ => by exact (pe_lc (own := [("_law_n", 21)]) (g := gName 21) (tt := tYes) (te := (tOp (rIxL K) (tVar 3) (tVar 21))) rfl sc_law.nd (pi_list (pv 18)) (blkOk_by (own := [("_law_n", 21)]) (by kernel_rfl)) (fun _ _ _ _ _ => (pg_name (i := 21) sc_law.nd rfl (by first | exact Or.inl rfl | exact Or.inr rfl))) (fun _ _ _ _ _ => pts_nil) (fun _ _ _ _ _ => by exact (pe_ix ix_list (pv 3) (pv 21) (fun _ _ => rfl)))))) pa_nil)))))) (pss_one (ps_ret pe_bl)) pss_nil))))))
        (pss_cons (ps_if (PW.pt (pw_or (pt_not (pt_val (pe_callB (cr_all rfl) (by rfl) T.b_all (by decide +kernel) (by exact (pa_cons (pe_lc (own := [("_law_x", 12)]) (g := gName 12) (tt := tYes) (te := (tOp (rEqL K CW (spWkEqA K CW) E0) (tFld K (tVar 12) "work") (tOp (rIxL K) (tVar 4) (tC (.int 0))))) rfl sc_law.nd (pi_list (pv 7)) (blkOk_by (own := [("_law_x", 12)]) (by kernel_rfl)) (fun _ _ _ _ _ => (pg_name (i := 12) sc_law.nd rfl (by first | exact Or.inl rfl | exact Or.inr rfl))) (fun _ _ _ _ _ => pts_nil) (fun _ _ _ _ _ => by exact (pe_cmpR (M_Work_eq.eqL (hr.mono (by decide))) (pe_fld (pv 12) rfl) (pe_ix ix_list (pv 4) pe_int (fun _ _ => rfl)) (nomark _)))) pa_nil))))) (pw_or1 (pt_not (pt_cmpR (M_Edition_eq.eqL (hr.mono (by decide))) (pe_ix ix_list (pv 7) (pe_un un_neg pe_int) (fun _ _ => rfl)) (pe_mk K_Edition (hr.mono (by decide)) (pa_cons (pe_ix ix_list (pv 4) pe_int (fun _ _ => rfl)) (pa_cons (pe_m0 M_Edition_passages (hr.mono (by decide)) (pe_ix ix_list (pv 7) (pe_un un_neg pe_int) (fun _ _ => rfl))) pa_nil))) (nomark _)))))) (pss_one (ps_ret pe_bl)) pss_nil)
        (pss_cons (ps_for PassesOwn.never rfl (pi_zipA rfl T.b_zip (pa_cons (pv 7) (pa_cons (pv 6) pa_nil))) (pg_tup rfl (pgs_cons (pg_name (i := 12) sc_law.nd rfl (by first | exact Or.inl rfl | exact Or.inr rfl)) (pgs_cons (pg_name (i := 13) sc_law.nd rfl (by first | exact Or.inl rfl | exact Or.inr rfl)) pgs_nil))) (pss_cons (ps_setLc (i := 14) (own := [("_law_y", 17)]) (g := gName 17) (tt := tYes) (te := (tCall (spOrd CW CE) [] E0 (tCons (tVar 12) (tCons (tVar 17) tNil)))) rfl sc_law.nd rfl rfl (sw_true rfl rfl rfl (by decide +kernel)) (pi_list (pv 7)) (blkOk_by (own := [("_law_y", 17)]) (by kernel_rfl)) (fun _ _ _ _ _ => (pg_name (i := 17) sc_law.nd rfl (by first | exact Or.inl rfl | exact Or.inr rfl))) (fun _ _ _ _ _ => pts_nil) (fun _ _ _ _ _ => by exact (pe_d D_ordered (hr.mono (by decide)) (pa_cons (pv 12) (pa_cons (pv 17) pa_nil)))))
        (pss_cons (ps_setLc (i := 15) (own := [("_law_others", 19)]) (g := gName 19) (tt := tYes) (te := (tCB (rAll K) (tCons (tLc (iList K (tVar 13)) (gName 8) tYes (tOp (rIn K false) (tVar 8) (tVar 19)) [8]) tNil))) rfl sc_law.nd rfl rfl (sw_true rfl rfl rfl (by decide +kernel)) (pi_list (pv 6)) (blkOk_by (own := [("_law_others", 19)]) (by kernel_rfl)) (fun _ _ _ _ _ => (pg_name (i := 19) sc_law.nd rfl (by first | exact Or.inl rfl | exact Or.inr rfl))) (fun _ _ _ _ _ => pts_nil) (fun _ _ _ _ _ => by exact (pe_callB (cr_all rfl) (by rfl) T.b_all (by decide +kernel) (by exact (pa_cons (pe_lc (own := [("_law_k", 8)]) (g := gName 8) (tt := tYes) (te := (tOp (rIn K false) (tVar 8) (tVar 19))) rfl sc_law.nd (pi_list (pv 13)) (blkOk_by (own := [("_law_k", 8)]) (by kernel_rfl)) (fun _ _ _ _ _ => (pg_name (i := 8) sc_law.nd rfl (by first | exact Or.inl rfl | exact Or.inr rfl))) (fun _ _ _ _ _ => pts_nil) (fun _ _ _ _ _ => by exact (pe_cmpR op_in_seq (pv 8) (pv 19) (by rfl)))) pa_nil)))))
        (pss_one (ps_if (pt_not (pt_val (pe_d D_same D_room (by exact (pa_cons (pv 14) (pa_cons (pe_lc (own := [("_law_is_in", 20), ("_law_y", 17)]) (g := gTup K 2 (gCons (gName 20) (gCons (gName 17) gNil))) (tt := tYes) (te := (tLst (tCons (tVar 20) (tCons (tAndV (tVar 20) (tOp (rI0 fun i j => .bl (decide (i < j))) (tCB (Evl.rLenS K) (tCons (tVar 13) tNil)) (tCB (Evl.rLenS K) (tCons (tVar 17) tNil)))) tNil)))) rfl sc_law.nd (pi_zipA rfl T.b_zip (pa_cons (pv 15) (pa_cons (pv 6) pa_nil))) (blkOk_by (own := [("_law_is_in", 20), ("_law_y", 17)]) (by kernel_rfl)) (fun _ _ _ _ _ => (pg_tup rfl (pgs_cons (pg_name (i := 20) sc_law.nd rfl (by first | exact Or.inl rfl | exact Or.inr rfl)) (pgs_cons (pg_name (i := 17) sc_law.nd rfl (by first | exact Or.inl rfl | exact Or.inr rfl)) pgs_nil)))) (fun _ _ _ _ _ => pts_nil) (fun _ _ _ _ _ => by exact (pe_lst (pa_cons (pv 20) (pa_cons (pe_and (pv 20) (pe_one (pe_cmpR op_lt (pe_callB call_len_seq (by rfl) T.b_len PySem.boot_len (pa_cons (pv 13) pa_nil)) (pe_callB call_len_seq (by rfl) T.b_len PySem.boot_len (pa_cons (pv 17) pa_nil)) (nomark _)))) pa_nil))))) pa_nil)))))) (pss_one (ps_ret pe_bl)) pss_nil)))))
        (pss_cons (ps_set (i := 16) sc_law.nd rfl (by first | exact Or.inl rfl | exact Or.inr rfl) (pe_d D_one (hr.mono (by decide)) (pa_cons (pv 1) (pa_cons (pe_lst (pa_cons (pe_mk K_Work (hr.mono (by decide)) (pa_cons pe_str (pa_cons (pv 3) pa_nil))) (pa_cons (pe_mk K_Work (hr.mono (by decide)) (pa_cons pe_str (pa_cons (pe_op op_cat (pe_slice sl_list (pv 3) po_none (po_some (pe_un un_neg pe_int))) (pe_lst (pa_cons pe_str pa_nil))) pa_nil))) pa_nil))) pa_nil))))
        (pss_cons (ps_asg (pe_tup (pa_cons (pe_d D_one (hr.mono (by decide)) (pa_cons (pv 1) (pa_cons (pv 7) pa_nil))) (pa_cons (pe_mk K_Edition (hr.mono (by decide)) (pa_cons (pv 16) (pa_cons (pe_slice sl_list (pe_m0 M_Work_passages (hr.mono (by decide)) (pv 16)) po_none (po_some (pe_d D_take (hr.mono (by decide)) (pa_cons (pv 1) (pa_cons (pe_op op_add (pv 5) pe_int) pa_nil))))) pa_nil))) pa_nil))) (pg_tup rfl (pgs_cons (pg_name (i := 12) sc_law.nd rfl (by first | exact Or.inl rfl | exact Or.inr rfl)) (pgs_cons (pg_name (i := 17) sc_law.nd rfl (by first | exact Or.inl rfl | exact Or.inr rfl)) pgs_nil))))
        (pss_one (ps_if (PW.pt (pw_or (pt_not (pt_val (pe_d D_refused (hr.mono (by decide)) (pa_cons (pv 12) (pa_cons (pv 17) pa_nil))))) (pw_or1 (pt_not (pt_val (pe_d D_refused (hr.mono (by decide)) (pa_cons (pv 17) (pa_cons (pv 12) pa_nil)))))))) (pss_one (ps_ret pe_bl)) pss_nil))))))))))))
        (pss_one (ps_ret pe_bl)))), ?_⟩
    refine ⟨_, rfl, a, ns, rfl, hS, hl, fun st c H0 nst nc e0 S0 => ?_⟩
    have TS0 : LamX.Tabs [(T0, qq)] H0 := fun p hp => by rw [List.mem_singleton.mp hp]; exact LamX.TabS.nil (e0 _ _ hT0)
    refine ⟨_, rfl, by decide, by decide, for_range (lo := 0) (n := 4) (fun i σ' H' => ∃ v2 v3 v4 v5 v6 v7 v8 v9 v10 v11 v12 v13 v14 v15 v16 v17 v18 v19 v20 v21 : Option V, σ' = [some (.ref a), some (.ref st), v2, v3, v4, v5, v6, v7, v8, v9, v10, v11, v12, v13, v14, v15, v16, v17, v18, v19, v20, v21] ∧ StAt H' st c ∧ LamX.Tabs [(T0, qq)] H')
      ⟨none, none, none, none, none, none, none, none, none, none, none, none, none, none, none, none, none, none, none, none, rfl, S0, TS0⟩ ?_ ?_⟩
    · rintro i σ' H hi ⟨v2, v3, v4, v5, v6, v7, v8, v9, v10, v11, v12, v13, v14, v15, v16, v17, v18, v19, v20, v21, rfl, S, TS⟩
      have TE' : TyEd K CW CE := fun H b wk nm ws S h => tyE ET EI h
      have ia : isW "a" = true := by decide +kernel
      have ib : isW "b" = true := by decide +kernel
      -- the words
      refine ⟨_, rfl, _, rfl, st, c, rfl, S, fun m H1 m0 m1 S1 e1 => ⟨st, c, m, rfl, S1, m1, fun r ws H2 nr hW hmem S2 e2 hr2 => ?_⟩⟩
      have lw : ws.length = m := hW.len
      have hw : WOk ws := ⟨by rw [lw]; exact hW, by omega, by omega⟩
      have hq : ("q" : Str) ∉ ws := fun z => allW_q _ (hmem _ z) rfl
      have TS2 := Tabs_st (Tabs_st TS e1 S) e2 S1
      have hrs : r ≠ st := (S1.of_new nr).1
      have nrc : c ≠ r := (S1.of_new nr).2.symm
      clear e1 e2 nr S1 S TS
      -- the works
      dsimp only [gName]
      refine sq_go (go_tup2 (go_lst2 ?_))
      refine evw_mkV ev_c (ev_var rfl) (.inl hr2) ia hw H2 (Ex.refl _) _ fun b1 H3 n1 e3 k1 => ?_
      refine evw_mkV ev_c (ev_var rfl) (.inl (e3 _ _ hr2)) ia hw H3 (Ex.refl _) _ fun b2 H4 n2 e4 k2 => ⟨by show 2 ≤ sizeLine; decide, fun bl nbl => ?_⟩
      have e24 := Ex.trans e3 e4
      have S4 := S2.same e24
      have u5 := Same.upd' nbl (o := .lst [.ref b1, .ref b2])
      have hb5 : (upd H4 bl (.lst [.ref b1, .ref b2])) bl = some (.lst (refs [b1, b2])) := upd_same
      have hbs : bl ≠ st := (S4.of_new nbl).1
      have hbc : bl ≠ c := (S4.of_new nbl).2
      have hr4 := e24 _ _ hr2
      have hbr : bl ≠ r := (ne_of_none hr4 nbl).symm
      generalize upd H4 bl (.lst [.ref b1, .ref b2]) = H5 at u5 hb5
      have e25 := Ex.trans e24 u5
      refine ev_lenL (ev_var (H := H5) rfl) (e25 _ _ hr2) H5 (Ex.refl _) _ fun H6 e6 => ⟨by show 2 ≤ sizeLine; decide, fun tp ntp => ?_⟩
      refine ⟨tp, _, rfl, SqT.of upd_same, rfl, _, _, rfl, _, _, rfl, rfl, ?_⟩
      have zl : ((ws.map V.str).length : Int) = (ws.length : Nat) := by rw [List.length_map]
      rw [zl]
      have e7 := Ex.trans e6 (Same.upd' ntp (o := .tup [.ref bl, .int ((ws.map V.str).length : Int)]))
      rw [zl] at e7
      generalize upd H6 tp (.tup [.ref bl, .int (ws.length : Nat)]) = H7 at e7
      have e27 := Ex.trans e25 e7
      have S7 := S2.same e27
      have TS7 := TS2.ext e27
      have hr7 := e27 _ _ hr2
      have hb7 := e7 _ _ hb5
      have k17 := (k1.same e4).same (Ex.trans u5 e7)
      have k27 := k2.same (Ex.trans u5 e7)
      clear e27 e7 ntp e25 u5 hb5 nbl hr4 S4 e24 e4 e3 n1 n2 k1 k2 hr2 TS2 S2 e6
      -- numbers and editions
      refine sq_go (dues6 rfl rfl (by show 8 < 22; decide) S7 hw.l1 _ fun dl ds Ss H8 ndl dls hdl l5 lD aD S8 e8 => ?_)
      dsimp only [gName]
      obtain ⟨xs7, hst7⟩ := S7.lst
      have hcd : c ≠ dl := by
        obtain ⟨_, ⟨ns, h, _⟩, _⟩ := S7
        exact ne_of_none h ndl
      refine sq_go (made6 (K := K) rfl rfl rfl rfl (by show 18 < 22; decide) S8 (Tabs_kp TS7 e8 hst7) (e8 _ _ hrs hr7) (e8 _ _ hbs hb7) (k17.kp e8 hst7) (k27.kp e8 hst7) ⟨hrs, hbs, dls⟩ ⟨ne_of_none hr7 ndl, ne_of_none hb7 ndl, hcd⟩ hdl l5 lD aD hw _ fun ml es H9 J9 => ?_)
      dsimp only [gName]
      have lS9 : Ss.length = 5 + 0 := by rw [← lD, l5]
      clear S7 TS7 hr7 hb7 k17 k27 e8 S8 hst7 aD lD l5 hdl ndl dls hcd
      refine ⟨_, rfl, by decide, by decide, for_range (lo := 0) (n := 4) (fun j σ' H' => ∃ (u8 u9 u10 u11 : Option V) (es ds : List Addr) (Ss : List (Nat → Bool)), σ' = [some (.ref a), some (.ref st), some (.int ((0 : Int) + (i : Int))), some (.ref r), some (.ref bl), some (.int (ws.length : Nat)), some (.ref dl), some (.ref ml), u8, u9, u10, u11, v12, v13, v14, v15, v16, v17, v18, v19, v20, v21] ∧ Ss.length = 5 + j ∧ JI CW CE T0 qq st c r bl b1 b2 ml dl ws es ds Ss H')
        ⟨_, _, _, _, es, ds, Ss, rfl, lS9, J9⟩ ?_ ?_⟩
      · clear J9 lS9 H9 es ds Ss
        rintro j σ' H hj ⟨u8, u9, u10, u11, es, ds, Ss, rfl, lS, J⟩
        have lE : (refs es).length = Ss.length := by rw [refs_len, J.lE]
        refine ⟨_, rfl, st, c, 3, rfl, J.S, by decide, by decide, fun d H1 d0 d3 S1 e1 => ?_⟩
        have J1 := J.kp e1 S1
        refine ⟨_, rfl, _, rfl, ml, _, rfl, .inl (SqL.of J1.hm), st, c, _, rfl, J1.S, by rw [lE]; omega, by rw [lE]; omega, fun n1 H2 p0 p1 S2 e2 => ?_⟩
        have J2 := J1.kp e2 S2
        refine ⟨_, rfl, _, rfl, ml, _, rfl, .inl (SqL.of J2.hm), st, c, _, rfl, J2.S, by rw [lE]; omega, by rw [lE]; omega, fun n2 H3 q0 q1 S3 e3 => ?_⟩
        have J3 := J2.kp e3 S3
        rw [lE] at p1 q1
        refine ⟨_, _, _, rfl, ?_⟩
        have J4 := J3
        clear J J1 J2 J3 S1 S2 S3 e1 e2 e3
        have i1 : n1.toNat < Ss.length := by omega
        have i2 : n2.toNat < Ss.length := by omega
        obtain ⟨e1, he1⟩ : ∃ e, es[n1.toNat]? = some e := ⟨_, List.getElem?_eq_getElem (by rw [J4.lE]; exact i1)⟩
        obtain ⟨e2, he2⟩ : ∃ e, es[n2.toNat]? = some e := ⟨_, List.getElem?_eq_getElem (by rw [J4.lE]; exact i2)⟩
        obtain ⟨y1, hy1⟩ : ∃ e, ds[n1.toNat]? = some e := ⟨_, List.getElem?_eq_getElem (by rw [J4.lD]; exact i1)⟩
        obtain ⟨y2, hy2⟩ : ∃ e, ds[n2.toNat]? = some e := ⟨_, List.getElem?_eq_getElem (by rw [J4.lD]; exact i2)⟩
        obtain ⟨w1, ed1⟩ := J4.aE _ _ _ he1 (nth_of_lt i1)
        obtain ⟨w2, ed2⟩ := J4.aE _ _ _ he2 (nth_of_lt i2)
        have lE4 := J4.lE
        refine ⟨_, rfl, .inl ⟨rfl, _, SqL.of J4.hm⟩, ?_⟩
        refine ⟨_, rfl, _, rfl, _, rfl, ml, _, n1, _, rfl, rfl, SqL.of J4.hm, at_of (Int.toNat_of_nonneg p0).symm (refs_at he1), _, rfl, _, rfl, ml, _, n2, _, rfl, rfl, SqL.of J4.hm, at_of (Int.toNat_of_nonneg q0).symm (refs_at he2), d, e1, e2, w1, w2, "a", ws, _, _, rfl, ed1, ed2, hw, fun p H5 np e5 hp => ?_⟩
        have J5 := J4.same e5
        refine ⟨ml, _, _, rfl, rfl, J5.hm, small1000 (by rw [refs_len, lE4, lS]; omega), ?_⟩
        have er : refs es ++ [V.ref p] = refs (es ++ [p]) := by simp [refs]
        have hd6 : (upd H5 ml (.lst (refs (es ++ [p])))) dl = some (.lst (refs ds)) := by rw [upd_ne J5.nm.2.2.1]; exact J5.hd
        have z1 := J5.aD _ _ _ hy1 (nth_of_lt i1)
        have z2 := J5.aD _ _ _ hy2 (nth_of_lt i2)
        have hy16 : (upd H5 ml (.lst (refs (es ++ [p])))) y1 = some (.lst (nts (idx ws.length (nth Ss n1.toNat)))) := by rw [upd_ne z1.1.2.1]; exact z1.2
        have hy26 : (upd H5 ml (.lst (refs (es ++ [p])))) y2 = some (.lst (nts (idx ws.length (nth Ss n2.toNat)))) := by rw [upd_ne z2.1.2.1]; exact z2.2
        rw [er]
        generalize hH6 : upd H5 ml (.lst (refs (es ++ [p]))) = H6 at hd6 hy16 hy26
        refine ⟨_, rfl, .inl ⟨rfl, _, SqL.of hd6⟩, ?_⟩
        refine ⟨_, rfl, _, rfl, _, rfl, dl, _, n1, _, rfl, rfl, SqL.of hd6, at_of (Int.toNat_of_nonneg p0).symm (refs_at hy1), _, rfl, _, rfl, dl, _, n2, _, rfl, rfl, SqL.of hd6, at_of (Int.toNat_of_nonneg q0).symm (refs_at hy2), _, rfl, d, y1, y2, ws.length, _, _, rfl, hy16, hy26, hw.l1, fun qa H7 nqa e7 hqa => ?_⟩
        have hd7 := e7 _ _ hd6
        have er2 : refs ds ++ [V.ref qa] = refs (ds ++ [qa]) := by simp [refs]
        refine ⟨dl, _, _, rfl, rfl, hd7, small1000 (by rw [refs_len, J4.lD, lS]; omega), ?_⟩
        rw [er2]
        have J8 := JI.add J5 hp hH6 nqa e7 hqa
        generalize upd H7 dl (.lst (refs (ds ++ [qa]))) = H8 at J8
        have lS' : (Ss ++ [fun i => opOf d (nth Ss n1.toNat i) (nth Ss n2.toNat i)]).length = 5 + (j + 1) := by rw [List.length_append, lS]; rfl
        generalize (Ss ++ [fun i => opOf d (nth Ss n1.toNat i) (nth Ss n2.toNat i)]) = Ss' at J8 lS'
        generalize es ++ [p] = es' at J8
        generalize ds ++ [qa] = ds' at J8
        clear hd7 er2 hd6 hy16 hy26 hH6 z1 z2 J5 J4 er hqa e7 nqa hp e5 np
        -- the passages
        have c1 : EvLL (tLc (iList K (tVar 7)) (gName 12) tYes (tMeth CE "passages" (spEdPs CW CE) [] E0 (tVar 12) tNil) [12]) [some (.ref a), some (.ref st), some (.int ((0 : Int) + (i : Int))), some (.ref r), some (.ref bl), some (.int (ws.length : Nat)), some (.ref dl), some (.ref ml), some (.int ((0 : Int) + (j : Int))), some (.int d), some (.int n1), some (.int n2), v12, v13, v14, v15, v16, v17, v18, v19, v20, v21] H8 ((List.range Ss'.length).map fun i => (pick ws (nth Ss' i)).map V.str) := by
          have := el_newL (K := K) (σ := [some (.ref a), some (.ref st), some (.int ((0 : Int) + (i : Int))), some (.ref r), some (.ref bl), some (.int (ws.length : Nat)), some (.ref dl), some (.ref ml), some (.int ((0 : Int) + (j : Int))), some (.int d), some (.int n1), some (.int n2), v12, v13, v14, v15, v16, v17, v18, v19, v20, v21]) (H := H8) (tl := tVar 7) (te := (tMeth CE "passages" (spEdPs CW CE) [] E0 (tVar 12) tNil)) (j := 12) (g := fun i => (pick ws (nth Ss' i)).map V.str) (ev_var rfl) J8.hm (by rw [refs_len, J8.lE, lS']; omega) (fun n x hx H9 e9 => ?_)
          · rw [refs_len, J8.lE] at this
            exact this
          · obtain ⟨e, he, rfl⟩ := refs_inv hx
            obtain ⟨wk, hE⟩ := J8.aE n e (nth Ss' n) he (nth_of_lt (by rw [← J8.lE]; exact (List.getElem?_eq_some_iff.mp he).1))
            exact el_edps (ev_var rfl) (hE.same e9)
        have c2 : EvLL (tLc (iList K (tVar 6)) (gName 18) tYes (tLc (iList K (tVar 18)) (gName 21) tYes (tOp (rIxL K) (tVar 3) (tVar 21)) [21]) [18]) [some (.ref a), some (.ref st), some (.int ((0 : Int) + (i : Int))), some (.ref r), some (.ref bl), some (.int (ws.length : Nat)), some (.ref dl), some (.ref ml), some (.int ((0 : Int) + (j : Int))), some (.int d), some (.int n1), some (.int n2), v12, v13, v14, v15, v16, v17, v18, v19, v20, v21] H8 ((List.range Ss'.length).map fun i => (pick ws (nth Ss' i)).map V.str) := by
          have := el_newL (K := K) (σ := [some (.ref a), some (.ref st), some (.int ((0 : Int) + (i : Int))), some (.ref r), some (.ref bl), some (.int (ws.length : Nat)), some (.ref dl), some (.ref ml), some (.int ((0 : Int) + (j : Int))), some (.int d), some (.int n1), some (.int n2), v12, v13, v14, v15, v16, v17, v18, v19, v20, v21]) (H := H8) (tl := tVar 6) (te := (tLc (iList K (tVar 18)) (gName 21) tYes (tOp (rIxL K) (tVar 3) (tVar 21)) [21])) (j := 18) (g := fun i => (pick ws (nth Ss' i)).map V.str) (ev_var rfl) J8.hd (by rw [refs_len, J8.lD, lS']; omega) (fun n x hx H9 e9 => ?_)
          · rw [refs_len, J8.lD] at this
            exact this
          · obtain ⟨e, he, rfl⟩ := refs_inv hx
            obtain ⟨_, hN⟩ := J8.aD n e (nth Ss' n) he (nth_of_lt (by rw [← J8.lD]; exact (List.getElem?_eq_some_iff.mp he).1))
            exact el_words (K := K) (i := 3) (j := 21) (m := 18) rfl rfl (by decide) (by show 21 < 22; decide) (e9 _ _ J8.hr) (e9 _ _ hN) hw.l1
        refine s_when (b := false) (et_not (et_B (ev_sameLL2 c1 c2 (by rw [List.length_map, List.length_range, lS']; omega) fun z hz => ?_))) (fun z => nomatch z) fun _ H9 e9 => ⟨_, _, _, _, es', ds', Ss', rfl, lS', J8.same e9⟩
        obtain ⟨n, _, rfl⟩ := List.mem_map.mp hz
        refine ⟨by rw [List.length_map, pick_len]; have := cnt_le (nth Ss' n) ws.length; have := hw.l1; omega, fun x hx => ?_⟩
        obtain ⟨z, _, rfl⟩ := List.mem_map.mp hx
        exact .inr (.inr ⟨_, rfl⟩)
      · clear J9 lS9 H9 es ds Ss
        rintro σ' H ⟨u8, u9, u10, u11, es, ds, Ss, rfl, lS, J⟩
        have lE := J.lE
        have lD := J.lD
        obtain ⟨es', le, hes⟩ : ∃ es' e, es = es' ++ [e] := ⟨es.dropLast, es.getLast (by intro z; rw [z] at lE; simp at lE; omega), (List.dropLast_concat_getLast _).symm⟩
        have hle : es[es'.length]? = some le := by rw [hes]; simp
        obtain ⟨wkl, edl⟩ := J.aE _ _ _ hle (nth_of_lt (by rw [← lE]; exact (List.getElem?_eq_some_iff.mp hle).1))
        have lastAt : atI (refs es) (-1) = some (.ref le) := by rw [hes, show refs (es' ++ [le]) = refs es' ++ [.ref le] by simp [refs]]; exact atI_last _ _
        refine q_when (b := false) (et_is (et_or (et_not (et_B (ev_allV (ev_var rfl) J.hm (by rw [refs_len, lE, lS]; omega) (fun x hx H2 e2 => ?_)))) fun _ => et_not (et_test (ev_is (ev_eqEN T.ee TE' (ev_op (ev_var rfl) (ev_un ev_c ru_neg) (rv_ixL (SqL.of J.hm) lastAt)) edl hw.ok.wd hw.ok.wd (evd_mkL (ev_op (ev_var rfl) ev_c (rv_ixL (SqL.of J.hb) (v := .ref b2) rfl)) (el_edps (ev_op (ev_var rfl) (ev_un ev_c ru_neg) (rv_ixL (SqL.of J.hm) lastAt)) edl) J.k2 hw)) (w := .bl true) (by simp)))) rfl) (fun z => nomatch z) fun _ H1 e1 => ?_
        · obtain ⟨e, he, rfl⟩ : ∃ e, e ∈ es ∧ x = .ref e := by
            obtain ⟨e, he, z⟩ := List.mem_map.mp hx
            exact ⟨e, he, z.symm⟩
          obtain ⟨n, hn, hn2⟩ := List.mem_iff_getElem.mp he
          have hn3 : es[n]? = some e := by rw [List.getElem?_eq_getElem hn, hn2]
          obtain ⟨wk, hE⟩ := J.aE n e (nth Ss n) hn3 (nth_of_lt (by omega))
          have hE2 := hE.same e2
          obtain ⟨dx, t, u, v, o1, _⟩ := id hE2.ob
          refine ev_is (ev_eqWW T.ww (tyW WT TI (J.k1.same e2)) (fun H' e' => tyW WT TI ((J.k1.same e2).same e')) (ev_fld (ev_var rfl) o1 ET.cl ET.nK (ed_work _ _ _ _)) (ev_op (ev_var rfl) ev_c (rv_ixL (SqL.of (e2 _ _ J.hb)) (v := .ref b1) rfl)) hE2.wk (J.k1.same e2) hw.ok.wd hw.ok.wd) (by simp)
        have J1 := J.same e1
        clear J e1 edl lastAt hle hes es' le wkl
        refine ⟨_, rfl, _, rfl, ml, dl, refs es, refs ds, rfl, .inl ⟨SqL.of J1.hm, SqL.of J1.hd, for_zipL (K := K) (by rw [refs_len, refs_len, lE, lD]) (fun _ σ' H' => ∃ u12 u13 u14 u15 : Option V, σ' = [some (.ref a), some (.ref st), some (.int ((0 : Int) + (i : Int))), some (.ref r), some (.ref bl), some (.int (ws.length : Nat)), some (.ref dl), some (.ref ml), u8, u9, u10, u11, u12, u13, u14, u15, v16, v17, v18, v19, v20, v21] ∧ Same H1 H')
          ⟨_, _, _, _, rfl, Same.refl _⟩ (fun _ σ' H' ⟨_, _, _, _, _, s'⟩ => ⟨SqL.of (s' _ _ J1.hm), SqL.of (s' _ _ J1.hd)⟩) ?_ ?_⟩⟩
        · rintro n x y tp σ' H' hx hy ⟨u12, u13, u14, u15, rfl, s'⟩ ntp
          obtain ⟨e, he, rfl⟩ := refs_inv hx
          obtain ⟨d, hd, rfl⟩ := refs_inv hy
          have hn : n < Ss.length := by rw [← lE]; exact (List.getElem?_eq_some_iff.mp he).1
          obtain ⟨wk, hE⟩ := J1.aE n e _ he (nth_of_lt hn)
          obtain ⟨_, hN⟩ := J1.aD n d _ hd (nth_of_lt hn)
          have sT := Ex.trans s' (Same.upd' ntp (o := .tup [.ref e, .ref d]))
          refine ⟨tp, _, rfl, SqT.of upd_same, rfl, _, _, rfl, _, _, rfl, rfl, ?_⟩
          generalize upd H' tp (.tup [.ref e, .ref d]) = H2 at sT
          have J2 := J1.same sT
          have hE2 := hE.same sT
          have hN2 := sT _ _ hN
          have tell : EvLL (tLc (iList K (tVar 7)) (gName 17) tYes (tCall (spOrd CW CE) [] E0 (tCons (tVar 12) (tCons (tVar 17) tNil))) [17]) [some (.ref a), some (.ref st), some (.int ((0 : Int) + (i : Int))), some (.ref r), some (.ref bl), some (.int (ws.length : Nat)), some (.ref dl), some (.ref ml), u8, u9, u10, u11, some (.ref e), some (.ref d), u14, u15, v16, v17, v18, v19, v20, v21] H2 ((List.range Ss.length).map fun i => [V.bl ((idx ws.length (nth Ss n)).all (nth Ss i)), V.bl ((idx ws.length (nth Ss n)).all (nth Ss i) && decide (cnt (nth Ss n) ws.length < cnt (nth Ss i) ws.length))]) := by
            have := el_newL (K := K) (σ := [some (.ref a), some (.ref st), some (.int ((0 : Int) + (i : Int))), some (.ref r), some (.ref bl), some (.int (ws.length : Nat)), some (.ref dl), some (.ref ml), u8, u9, u10, u11, some (.ref e), some (.ref d), u14, u15, v16, v17, v18, v19, v20, v21]) (H := H2) (tl := tVar 7) (te := (tCall (spOrd CW CE) [] E0 (tCons (tVar 12) (tCons (tVar 17) tNil)))) (j := 17) (g := fun i => [V.bl ((idx ws.length (nth Ss n)).all (nth Ss i)), V.bl ((idx ws.length (nth Ss n)).all (nth Ss i) && decide (cnt (nth Ss n) ws.length < cnt (nth Ss i) ws.length))]) (ev_var rfl) J2.hm (by rw [refs_len, lE, lS]; omega) (fun n' x hx H9 e9 => ?_)
            · rw [refs_len, lE] at this
              exact this
            · obtain ⟨e', he', rfl⟩ := refs_inv hx
              obtain ⟨wk', hE'⟩ := J2.aE n' e' (nth Ss n') he' (nth_of_lt (by rw [← lE]; exact (List.getElem?_eq_some_iff.mp he').1))
              exact el_call (ea_cons (ev_var rfl) (ea_cons (ev_var rfl) ea_nil)) fun H10 e10 Q q E => ⟨e, e', wk, wk', "a", ws, _, _, rfl, (hE2.same e9).same e10, (hE'.same e9).same e10, hw, fun p H11 np e11 hp => q p H11 np e11 hp⟩
          refine q_asgLL tell fun tl zs H3 ntl e3 htl hzs hz => ?_
          have J3 := J2.same e3
          have hN3 := e3 _ _ hN2
          have least : EvL (tLc (iList K (tVar 6)) (gName 19) tYes (tCB (rAll K) (tCons (tLc (iList K (tVar 13)) (gName 8) tYes (tOp (rIn K false) (tVar 8) (tVar 19)) [8]) tNil)) [19]) [some (.ref a), some (.ref st), some (.int ((0 : Int) + (i : Int))), some (.ref r), some (.ref bl), some (.int (ws.length : Nat)), some (.ref dl), some (.ref ml), u8, u9, u10, u11, some (.ref e), some (.ref d), some (.ref tl), u15, v16, v17, v18, v19, v20, v21] H3 ((List.range Ss.length).map fun i => V.bl ((idx ws.length (nth Ss n)).all (nth Ss i))) := by
            have := el_lcL (K := K) (σ := [some (.ref a), some (.ref st), some (.int ((0 : Int) + (i : Int))), some (.ref r), some (.ref bl), some (.int (ws.length : Nat)), some (.ref dl), some (.ref ml), u8, u9, u10, u11, some (.ref e), some (.ref d), some (.ref tl), u15, v16, v17, v18, v19, v20, v21]) (H := H3) (tl := tVar 6) (t := tYes) (te := (tCB (rAll K) (tCons (tLc (iList K (tVar 13)) (gName 8) tYes (tOp (rIn K false) (tVar 8) (tVar 19)) [8]) tNil))) (vs := [19]) (j := 19) (fun _ => true) (fun i => V.bl ((idx ws.length (nth Ss n)).all (nth Ss i))) (ev_var rfl) (SqL.of J3.hd) (by rw [refs_len, lD, lS]; omega) (fun x => wipe1 _ 19 x) (fun _ _ _ _ _ => et_yes) (fun n' x H4 e4 hx _ => ?_)
            · rw [given_true, refs_len, lD] at this
              exact this
            · obtain ⟨d', hd', rfl⟩ := refs_inv hx
              obtain ⟨_, hN'⟩ := J3.aD n' d' (nth Ss n') hd' (nth_of_lt (by rw [← lD]; exact (List.getElem?_eq_some_iff.mp hd').1))
              have hli := idx_len ws.length (nth Ss n)
              have inner := el_mapL (K := K) (σ := [some (.ref a), some (.ref st), some (.int ((0 : Int) + (i : Int))), some (.ref r), some (.ref bl), some (.int (ws.length : Nat)), some (.ref dl), some (.ref ml), u8, u9, u10, u11, some (.ref e), some (.ref d), some (.ref tl), u15, v16, v17, v18, some (.ref d'), v20, v21]) (H := H4) (tl := tVar 13) (te := tOp (rIn K false) (tVar 8) (tVar 19)) (j := 8) (l := idx ws.length (nth Ss n)) (f := fun n : Nat => V.int n) (g := fun k => V.bl (nth Ss n' k)) (ev_var rfl) (e4 _ _ hN3) (by have := hw.l1; omega) (fun m hm H5 e5 => ev_is (ev_op (ev_var rfl) (ev_var rfl) (rv_isL (SqL.of (e5 _ _ (e4 _ _ hN'))) rfl (nts_flat _))) (by rw [nts_in, dec_idx (idx_mem.mp hm).1]))
              refine ev_is (ev_all (bs := (idx ws.length (nth Ss n)).map (nth Ss n')) ?_) ?_
              · rw [List.map_map]
                exact inner
              · rw [List.all_map]
                rfl
          refine q_asgL least fun ll H4 nll e4 hll => ?_
          have J4 := J3.same e4
          have hN4 := e4 _ _ hN3
          have due : EvLL (tLc (iZipA K (tCons (tVar 15) (tCons (tVar 6) tNil))) (gTup K 2 (gCons (gName 20) (gCons (gName 17) gNil))) tYes (tLst (tCons (tVar 20) (tCons (tAndV (tVar 20) (tOp (rI0 fun i j => .bl (decide (i < j))) (tCB (Evl.rLenS K) (tCons (tVar 13) tNil)) (tCB (Evl.rLenS K) (tCons (tVar 17) tNil)))) tNil))) [20, 17]) [some (.ref a), some (.ref st), some (.int ((0 : Int) + (i : Int))), some (.ref r), some (.ref bl), some (.int (ws.length : Nat)), some (.ref dl), some (.ref ml), u8, u9, u10, u11, some (.ref e), some (.ref d), some (.ref tl), some (.ref ll), v16, v17, v18, v19, v20, v21] H4 (zs.map fun z => z.2) := by
            rw [hzs]
            have := el_newZ (K := K) (σ := [some (.ref a), some (.ref st), some (.int ((0 : Int) + (i : Int))), some (.ref r), some (.ref bl), some (.int (ws.length : Nat)), some (.ref dl), some (.ref ml), u8, u9, u10, u11, some (.ref e), some (.ref d), some (.ref tl), some (.ref ll), v16, v17, v18, v19, v20, v21]) (H := H4) (ta := tVar 15) (tb := tVar 6) (te := (tLst (tCons (tVar 20) (tCons (tAndV (tVar 20) (tOp (rI0 fun i j => .bl (decide (i < j))) (tCB (Evl.rLenS K) (tCons (tVar 13) tNil)) (tCB (Evl.rLenS K) (tCons (tVar 17) tNil)))) tNil)))) (i := 20) (j := 17) (vs := [20, 17]) (g := fun i => [V.bl ((idx ws.length (nth Ss n)).all (nth Ss i)), V.bl ((idx ws.length (nth Ss n)).all (nth Ss i) && decide (cnt (nth Ss n) ws.length < cnt (nth Ss i) ws.length))]) (ev_var rfl) (ev_var rfl) hll J4.hd (by rw [List.length_map, List.length_range, refs_len, lD]) (by rw [List.length_map, List.length_range, lS]; omega) (fun _ _ => rfl) (fun n' x y H9 e9 hx hy => ?_)
            · rw [List.length_map, List.length_range] at this
              exact this
            · obtain ⟨d', hd', rfl⟩ := refs_inv hy
              have hn' : n' < Ss.length := by rw [← lD]; exact (List.getElem?_eq_some_iff.mp hd').1
              obtain ⟨_, hN'⟩ := J4.aD n' d' (nth Ss n') hd' (nth_of_lt hn')
              rw [List.getElem?_map, List.getElem?_range hn'] at hx
              cases (Option.some.inj hx)
              refine el_lst (ea_cons (ev_var rfl) (ea_cons (ev_andV (ev_var rfl) fun _ => ev_is (ev_op (ev_lenL (ev_var rfl) (e9 _ _ hN4)) (ev_lenL (ev_var rfl) (e9 _ _ hN')) rv_I0) ?_) ea_nil)) (by show 2 ≤ 100000; decide)
              rw [nts_len, nts_len]
              congr 1
              exact decide_eq_decide.mpr Int.ofNat_lt
          refine s_when (b := false) (et_not (et_B (ev_sameLf (ev_var rfl) (e4 _ _ htl) (fun z hzz => e4 _ _ (hz z hzz)) due (by have := congrArg List.length hzs; rw [List.length_map, List.length_map, List.length_range, lS] at this; omega) fun z hzz => ?_))) (fun z => nomatch z) fun _ H9 e9 => ⟨_, _, _, _, rfl, Ex.trans sT (Ex.trans e3 (Ex.trans e4 e9))⟩
          have hz2 : z.2 ∈ zs.map fun z => z.2 := List.mem_map.mpr ⟨z, hzz, rfl⟩
          rw [hzs] at hz2
          obtain ⟨n', _, e'⟩ := List.mem_map.mp hz2
          rw [← e']
          refine ⟨by show 2 ≤ 40000; decide, fun x hx => ?_⟩
          simp only [List.mem_cons, List.not_mem_nil, or_false] at hx
          rcases hx with rfl | rfl
          · exact .inr (.inl ⟨_, rfl⟩)
          · exact .inr (.inl ⟨_, rfl⟩)
        · rintro σ' H' ⟨u12, u13, u14, u15, rfl, s'⟩
          have J2 := J1.same s'
          clear J1 s'
          -- a work that is not equal
          have hdp : WOk (ws.dropLast ++ [("q" : Str)]) := wok_sub hw (List.dropLast_sublist _) hq iq (by rw [List.length_dropLast]; have := hw.l1; have := hw.l0; omega)
          have lr : (ws.map V.str).length ≤ 60 := by rw [List.length_map]; exact hw.l1
          refine ⟨_, rfl, ?_⟩
          refine go_lst2 ?_
          refine evw_mkV ev_c (ev_var rfl) (.inl J2.hr) ib hw H' (Ex.refl _) _ fun a1 H3 n1 e3 k1 => ?_
          have J3 := J2.same e3
          have w2 : EvW CW (tMake CW (spWkInit CW) [] E0 (tCons (tC (.str "a")) (tCons (tOp rCat (tSl (rSlL K) (tVar 3) tNoPart (tPart (tUn (rU fun i => .int (-i)) (tC (.int 1))))) (tLst (tCons (tC (.str "q")) tNil))) tNil))) [some (.ref a), some (.ref st), some (.int ((0 : Int) + (i : Int))), some (.ref r), some (.ref bl), some (.int (ws.length : Nat)), some (.ref dl), some (.ref ml), u8, u9, u10, u11, u12, u13, u14, u15, v16, v17, v18, v19, v20, v21] H3 "a" (ws.dropLast ++ [("q" : Str)]) :=
            evw_mk ev_c (by rw [List.map_append, List.map_dropLast, ← cutV_last]; exact el_cat (el_sl (ev_var rfl) eo_none (eo_some (ev_un ev_c ru_neg)) (sq_of J3.hr)) (el_lst (ea_cons ev_c ea_nil) (by decide)) (by rw [cutV_last, List.length_dropLast]; show _ + 1 ≤ 100000; omega)) ia hdp
          refine w2 H3 (Ex.refl _) _ fun a2 H4 n2 e4 k2 => ⟨by show 2 ≤ sizeLine; decide, fun lw nlw => ?_⟩
          have su := Same.upd' nlw (o := .lst [.ref a1, .ref a2])
          have J5 := (J3.same e4).same su
          have hlw : (upd H4 lw (.lst [.ref a1, .ref a2])) lw = some (.lst [.ref a1, .ref a2]) := upd_same
          have lws : lw ≠ st := ((J3.same e4).S.of_new nlw).1
          have k15 := k1.same (Ex.trans e4 su)
          have k25 := k2.same su
          generalize upd H4 lw (.lst [.ref a1, .ref a2]) = H5 at J5 hlw k15 k25 su
          clear J3 J2 k1 k2 w2 e4 n2 e3 n1 nlw su
          refine ⟨st, c, lw, _, rfl, J5.S, lws, .inl (SqL.of hlw), by show 0 < 2; decide, by show 2 < _; decide, fun v H6 hv S6 e6 => ?_⟩
          have J6 := J5.kp e6 S6
          obtain ⟨xs5, hst5⟩ := J5.S.lst
          obtain ⟨sw, nm', ws', rfl, hsw, hw', hne⟩ : ∃ sw nm' ws', v = .ref sw ∧ WkAt CW H6 sw nm' ws' ∧ WOk ws' ∧ ¬ (("a" : Str) = nm' ∧ ws = ws') := by
            simp only [List.mem_cons, List.not_mem_nil, or_false] at hv
            rcases hv with rfl | rfl
            · exact ⟨a1, "b", ws, rfl, k15.kp e6 hst5, hw, fun z => absurd z.1 (by decide +kernel)⟩
            · exact ⟨a2, "a", _, rfl, k25.kp e6 hst5, hdp, fun z => hq (by rw [z.2]; simp)⟩
          clear J5 hlw k15 k25 e6 hst5 hv lws S6
          -- two editions
          dsimp only [gName]
          refine sq_go (go_tup2 ?_)
          have l0 : 0 < (refs es).length := by rw [refs_len, lE, lS]; omega
          refine ⟨_, rfl, _, rfl, st, c, ml, _, rfl, J6.S, J6.ns.2.2.1, .inl (SqL.of J6.hm), l0, by rw [refs_len, lE, lS]; omega, fun v H7 hv S7 e7 => ?_⟩
          have J7 := J6.kp e7 S7
          obtain ⟨xs6, hst6⟩ := J6.S.lst
          have hsw7 := hsw.kp e7 hst6
          obtain ⟨x, hx, rfl⟩ : ∃ e, e ∈ es ∧ v = .ref e := by
            obtain ⟨e, he, z⟩ := List.mem_map.mp hv
            exact ⟨e, he, z.symm⟩
          obtain ⟨n, hn, hn2⟩ := List.mem_iff_getElem.mp hx
          obtain ⟨wkx, hE⟩ := J7.aE n x (nth Ss n) (by rw [List.getElem?_eq_getElem hn, hn2]) (nth_of_lt (by omega))
          refine ⟨_, rfl, ?_⟩
          refine el_wkps (ev_var (H := H7) rfl) hsw7 H7 (Ex.refl _) _ fun pl H8 npl e8 hpl => ?_
          have J8 := J7.same e8
          refine ⟨_, rfl, _, rfl, _, _, rfl, rfl, st, c, _, rfl, J8.S, by omega, by have := hw.l1; omega, fun d H9 d0 dm S9 e9 => ?_⟩
          have J9 := J8.kp e9 S9
          obtain ⟨xs8, hst8⟩ := J8.S.lst
          have pls : pl ≠ st := (J7.S.of_new npl).1
          have hpl9 := e9 _ _ pls hpl
          have hsw9 := (hsw7.same e8).kp e9 hst8
          have hE9 := (hE.same e8).kp e9 hst8
          refine ⟨_, rfl, pl, _, rfl, SqL.of hpl9, fun sl nsl => ?_⟩
          have hcut : cutV (ws'.map V.str) none (some d) = (ws'.take d.toNat).map V.str := by
            rw [show d = ((d.toNat : Nat) : Int) by omega, cutV_to, List.map_take]
            rfl
          rw [hcut]
          have su := Same.upd' nsl (o := .lst ((ws'.take d.toNat).map V.str))
          refine mkEd (S := fun i => decide (ws'.getD i no ∈ ws'.take d.toNat)) (R := fun x H' => _) (hsw9.same su) hw' (.inl (by rw [upd_same, pick_of (List.take_sublist _ _) hw'.ok.nd])) fun y H10 ny e10 hy => ?_
          have J10 := (J9.same su).same e10
          have hx10 := (hE9.same su).same e10
          refine ⟨by show 2 ≤ sizeLine; decide, fun tp ntp => ⟨tp, _, rfl, SqT.of upd_same, rfl, _, _, rfl, _, _, rfl, rfl, ?_⟩⟩
          have u11 := Same.upd' ntp (o := .tup [.ref x, .ref y])
          generalize upd H10 tp (.tup [.ref x, .ref y]) = H11 at u11
          have J11 := J10.same u11
          have hx11 := hx10.same u11
          have hy11 := hy.same u11
          have t1 : TwoEd CW CE H11 x y := ⟨_, _, _, _, _, _, _, _, hx11, hy11, hw, hw', hne⟩
          have t2 : TwoEd CW CE H11 y x := ⟨_, _, _, _, _, _, _, _, hy11, hx11, hw', hw, fun z => hne ⟨z.1.symm, z.2.symm⟩⟩
          refine ⟨_, rfl, _, rfl, x, y, rfl, J11.T, t1, fun H12 e12 T12 => ⟨true, rfl, iteF ⟨_, rfl, _, rfl, y, x, rfl, T12, t2.extn e12, fun H13 e13 T13 => ⟨true, rfl, iteF ?_⟩⟩⟩⟩
          exact ⟨_, _, _, _, _, _, _, _, _, _, _, _, _, _, _, _, _, _, _, _, rfl, (J11.S.extn e12).extn e13, T13⟩
    · rintro σ' H' ⟨v2, v3, v4, v5, v6, v7, v8, v9, v10, v11, v12, v13, v14, v15, v16, v17, v18, v19, v20, v21, rfl, S, TS⟩
      exact k H'
end
end Lm

namespace Lm
open PySem L2 Evl RZ
theorem kit_oth {K : PySem.W.Frag} {C : Addr} {t : Value} (hd : PySem.W.hasDictIn K C = true) (ht : PySem.W.typeIn K (.ref C) = some (.type "type")) (hs : PySem.W.subIn K t (.ref C) = some false) (hne : t ≠ Value.ref C) : PySem.W.kitOne K t (.ref C) = some false := by
  obtain ⟨cd, hc, _⟩ := PySem.W.any_some hd
  have hne : ¬ ((t == Value.ref C) = true) := fun q => hne (beq_iff_eq.mp q)
  unfold PySem.W.kitOne PySem.W.kitCls
  rw [if_neg hne]
  dsimp only
  rw [hc, ht, if_pos (by simp)]
  exact hs
theorem eqTxt_of {K : PySem.W.Frag} {C : Addr} {t : Value} (hd : PySem.W.hasDictIn K C = true) (ht : PySem.W.typeIn K (.ref C) = some (.type "type")) (hs : PySem.W.subIn K t (.ref C) = some false) (hne : t ≠ Value.ref C) : EqTxt K C t :=
  ⟨by unfold PySem.W.notFirst; rw [hs]; simp, kit_oth hd ht hs hne⟩
theorem nf_self {K : PySem.W.Frag} {C : Addr} : PySem.W.notFirst K C (.ref C) = true := by unfold PySem.W.notFirst; simp
end Lm

namespace Lm
open PySem L2
theorem all_mk {l : PySem.W.OpenLaw} {w : World} {K : PySem.W.Frag} {h : Heap} {mg : Str → Option Value} {fa C_Work C_Edition C_OW f_fresh f_fill f_take f_one f_same f_allw f_somew f_many f_kept f_isrow f_isword f_wkinit f_wklen f_wkin f_wkend f_wkeq f_wkps f_cuts f_counts f_edinit f_edps f_edeq f_onew f_edand f_edor f_edsub f_edle f_edlt f_joined f_due f_ordered f_isoth f_refused f_law : Addr} (X : K.In h) (G : h.Ns mainGlobals mg) (hfa : mg "law" = some (.ref fa))
    {od_fresh an_fresh od_fill an_fill od_take an_take od_one an_one od_same an_same od_allw an_allw od_somew an_somew od_many an_many od_kept an_kept od_isrow an_isrow od_isword an_isword od_wkinit an_wkinit od_wklen an_wklen od_wkin an_wkin od_wkend an_wkend od_wkeq an_wkeq od_wkps an_wkps od_cuts an_cuts od_counts an_counts od_edinit an_edinit od_edps an_edps od_edeq an_edeq od_onew an_onew od_edand an_edand od_edor an_edor od_edsub an_edsub od_edle an_edle od_edlt an_edlt od_joined an_joined od_due an_due od_ordered an_ordered od_isoth an_isoth od_refused an_refused od_law an_law : Option Addr} {sl_fresh sl_fill sl_take sl_one sl_same sl_allw sl_somew sl_many sl_kept sl_isrow sl_isword sl_wkinit sl_wklen sl_wkin sl_wkend sl_wkeq sl_wkps sl_cuts sl_counts sl_edinit sl_edps sl_edeq sl_onew sl_edand sl_edor sl_edsub sl_edle sl_edlt sl_joined sl_due sl_ordered sl_isoth sl_refused sl_law : Array (Option Value)} {oc_fresh kV_fresh dc_fresh pm_fresh cd_fresh ct_fresh oc_fill kV_fill dc_fill pm_fill cd_fill ct_fill oc_take kV_take dc_take pm_take cd_take ct_take oc_one kV_one dc_one pm_one cd_one ct_one oc_same kV_same dc_same pm_same cd_same ct_same oc_allw kV_allw dc_allw pm_allw cd_allw ct_allw oc_somew kV_somew dc_somew pm_somew cd_somew ct_somew oc_many kV_many dc_many pm_many cd_many ct_many oc_kept kV_kept dc_kept pm_kept cd_kept ct_kept oc_isrow kV_isrow dc_isrow pm_isrow cd_isrow ct_isrow oc_isword kV_isword dc_isword pm_isword cd_isword ct_isword oc_wkinit kV_wkinit dc_wkinit pm_wkinit cd_wkinit ct_wkinit oc_wklen kV_wklen dc_wklen pm_wklen cd_wklen ct_wklen oc_wkin kV_wkin dc_wkin pm_wkin cd_wkin ct_wkin oc_wkend kV_wkend dc_wkend pm_wkend cd_wkend ct_wkend oc_wkeq kV_wkeq dc_wkeq pm_wkeq cd_wkeq ct_wkeq oc_wkps kV_wkps dc_wkps pm_wkps cd_wkps ct_wkps oc_cuts kV_cuts dc_cuts pm_cuts cd_cuts ct_cuts oc_counts kV_counts dc_counts pm_counts cd_counts ct_counts oc_edinit kV_edinit dc_edinit pm_edinit cd_edinit ct_edinit oc_edps kV_edps dc_edps pm_edps cd_edps ct_edps oc_edeq kV_edeq dc_edeq pm_edeq cd_edeq ct_edeq oc_onew kV_onew dc_onew pm_onew cd_onew ct_onew oc_edand kV_edand dc_edand pm_edand cd_edand ct_edand oc_edor kV_edor dc_edor pm_edor cd_edor ct_edor oc_edsub kV_edsub dc_edsub pm_edsub cd_edsub ct_edsub oc_edle kV_edle dc_edle pm_edle cd_edle ct_edle oc_edlt kV_edlt dc_edlt pm_edlt cd_edlt ct_edlt oc_joined kV_joined dc_joined pm_joined cd_joined ct_joined oc_due kV_due dc_due pm_due cd_due ct_due oc_ordered kV_ordered dc_ordered pm_ordered cd_ordered ct_ordered oc_isoth kV_isoth dc_isoth pm_isoth cd_isoth ct_isoth oc_refused kV_refused dc_refused pm_refused ct_refused oc_law kV_law dc_law pm_law cd_law ct_law : Value} {tL tW : Tok}
    {Z_refused Y_refused : Addr} {oz_refused : Value} {oy_refused : Option Addr} {vz_refused : Array Value} {sz_refused : Array (Option Value)}
    (a_Work : PySem.W.nsIn K mainGlobals "Work" = some (some (.ref C_Work)))
    (pg_Work : PySem.W.plainGet K C_Work Str.empty = true)
    (hd_Work : PySem.W.hasDictIn K C_Work = true)
    (po_Work : PySem.W.plainOver K C_Work = true)
    (sa_Work : PySem.W.findIn K (.ref C_Work) "__setattr__" = some (some (.builtin "object.__setattr__")))
    (mk_Work : PySem.W.makesIn K C_Work = true)
    (kc_Work : PySem.W.keepIn K (.ref C_Work) = true)
    (n_Work_name : PySem.W.findIn K (.ref C_Work) "name" = some none)
    (n_Work_words : PySem.W.findIn K (.ref C_Work) "words" = some none)
    (n_Work_ends : PySem.W.findIn K (.ref C_Work) "ends" = some none)
    (aOW_Work : PySem.W.nsIn K mainGlobals "OtherWork" = some (some (.ref C_OW)))
    (xOW_Work : PySem.W.excIn K C_OW [.type "ValueError", .type "Exception", .type "BaseException", .type "object"] "ValueError.__new__" = true)
    (kOW_Work : PySem.W.keepIn K (.ref C_OW) = true)
    (bOW_Work : PySem.W.subIn K (.ref C_OW) (.type "BaseException") = some true)
    (tOW_Work : PySem.W.typeIn K (.ref C_OW) = some (.type "type"))
    (iOW_Work : PySem.W.isClsIn K C_OW = true)
    (sOW_Work : PySem.W.subIn K (.ref C_OW) (.ref C_OW) = some true)
    (ha_Work : PySem.W.findIn K (.ref C_Work) "__class__" = some (some (.builtin "object.__class__")))
    (hn_Work : PySem.W.specialIn K (.builtin "object.__class__") "__get__" = some (some (.builtin "getset_descriptor.__get__")))
    (htk_Work : PySem.W.takesIn K (.builtin "object.__class__") = some true)
    (hm_Work : PySem.W.mroIn K C_Work (.type "object") = some true)
    (ne_Work : PySem.W.findIn K (.ref C_Work) "__ne__" = some (some (.builtin "object.__ne__")))
    (ob_Work : PySem.W.subIn K (.ref C_Work) (.type "object") = some true)
    (ty_Work : PySem.W.typeIn K (.ref C_Work) = some (.type "type"))
    (self_Work : PySem.W.subIn K (.ref C_Work) (.ref C_Work) = some true)
    (zany_Work : PySem.W.nsIn K mainGlobals "any" = some none)
    (a_Edition : PySem.W.nsIn K mainGlobals "Edition" = some (some (.ref C_Edition)))
    (pg_Edition : PySem.W.plainGet K C_Edition Str.empty = true)
    (hd_Edition : PySem.W.hasDictIn K C_Edition = true)
    (po_Edition : PySem.W.plainOver K C_Edition = true)
    (sa_Edition : PySem.W.findIn K (.ref C_Edition) "__setattr__" = some (some (.builtin "object.__setattr__")))
    (mk_Edition : PySem.W.makesIn K C_Edition = true)
    (kc_Edition : PySem.W.keepIn K (.ref C_Edition) = true)
    (n_Edition_work : PySem.W.findIn K (.ref C_Edition) "work" = some none)
    (n_Edition_words : PySem.W.findIn K (.ref C_Edition) "words" = some none)
    (n_Edition_cuts : PySem.W.findIn K (.ref C_Edition) "cuts" = some none)
    (n_Edition_counts : PySem.W.findIn K (.ref C_Edition) "counts" = some none)
    (sf_Edition : PySem.W.selfFirst K C_Edition = true)
    (ha_Edition : PySem.W.findIn K (.ref C_Edition) "__class__" = some (some (.builtin "object.__class__")))
    (hm_Edition : PySem.W.mroIn K C_Edition (.type "object") = some true)
    (ne_Edition : PySem.W.findIn K (.ref C_Edition) "__ne__" = some (some (.builtin "object.__ne__")))
    (ob_Edition : PySem.W.subIn K (.ref C_Edition) (.type "object") = some true)
    (ty_Edition : PySem.W.typeIn K (.ref C_Edition) = some (.type "type"))
    (ed_Edition : PySem.W.subIn K (.ref C_Edition) (.ref C_Work) = some false)
    (wk_Edition : PySem.W.subIn K (.ref C_Work) (.ref C_Edition) = some false)
    (tNoneType_Edition : PySem.W.subIn K (.type "NoneType") (.ref C_Edition) = some false)
    (tint_Edition : PySem.W.subIn K (.type "int") (.ref C_Edition) = some false)
    (tlist_Edition : PySem.W.subIn K (.type "list") (.ref C_Edition) = some false)
    (ttuple_Edition : PySem.W.subIn K (.type "tuple") (.ref C_Edition) = some false)
    (uNoneType_Edition : PySem.W.subIn K (.ref C_Edition) (.type "NoneType") = some false)
    (uint_Edition : PySem.W.subIn K (.ref C_Edition) (.type "int") = some false)
    (ulist_Edition : PySem.W.subIn K (.ref C_Edition) (.type "list") = some false)
    (utuple_Edition : PySem.W.subIn K (.ref C_Edition) (.type "tuple") = some false)
    (a_fresh : PySem.W.nsIn K mainGlobals "_law_fresh" = some (some (.ref f_fresh)))
    (l_fresh : K.lookup f_fresh = some ⟨oc_fresh, od_fresh, .func (PySem.W.fnOf "_law_fresh" "_law_fresh" (defArgs s_fresh) (defBody s_fresh) (defScope s_fresh) .none kV_fresh dc_fresh pm_fresh an_fresh cd_fresh ct_fresh), sl_fresh⟩)
    (c_fresh : PySem.W.codeIn K cd_fresh "_law_fresh" = true)
    (k_fresh : PySem.W.keepIn K (.ref f_fresh) = true)
    (a_fill : PySem.W.nsIn K mainGlobals "_law_fill" = some (some (.ref f_fill)))
    (l_fill : K.lookup f_fill = some ⟨oc_fill, od_fill, .func (PySem.W.fnOf "_law_fill" "_law_fill" (defArgs s_fill) (defBody s_fill) (defScope s_fill) .none kV_fill dc_fill pm_fill an_fill cd_fill ct_fill), sl_fill⟩)
    (c_fill : PySem.W.codeIn K cd_fill "_law_fill" = true)
    (k_fill : PySem.W.keepIn K (.ref f_fill) = true)
    (a_take : PySem.W.nsIn K mainGlobals "_law_take" = some (some (.ref f_take)))
    (l_take : K.lookup f_take = some ⟨oc_take, od_take, .func (PySem.W.fnOf "_law_take" "_law_take" (defArgs s_take) (defBody s_take) (defScope s_take) .none kV_take dc_take pm_take an_take cd_take ct_take), sl_take⟩)
    (c_take : PySem.W.codeIn K cd_take "_law_take" = true)
    (k_take : PySem.W.keepIn K (.ref f_take) = true)
    (a_one : PySem.W.nsIn K mainGlobals "_law_one" = some (some (.ref f_one)))
    (l_one : K.lookup f_one = some ⟨oc_one, od_one, .func (PySem.W.fnOf "_law_one" "_law_one" (defArgs s_one) (defBody s_one) (defScope s_one) .none kV_one dc_one pm_one an_one cd_one ct_one), sl_one⟩)
    (c_one : PySem.W.codeIn K cd_one "_law_one" = true)
    (k_one : PySem.W.keepIn K (.ref f_one) = true)
    (a_same : PySem.W.nsIn K mainGlobals "_law_same" = some (some (.ref f_same)))
    (l_same : K.lookup f_same = some ⟨oc_same, od_same, .func (PySem.W.fnOf "_law_same" "_law_same" (defArgs s_same) (defBody s_same) (defScope s_same) .none kV_same dc_same pm_same an_same cd_same ct_same), sl_same⟩)
    (c_same : PySem.W.codeIn K cd_same "_law_same" = true)
    (k_same : PySem.W.keepIn K (.ref f_same) = true)
    (a_allw : PySem.W.nsIn K mainGlobals "_law_all_words" = some (some (.ref f_allw)))
    (l_allw : K.lookup f_allw = some ⟨oc_allw, od_allw, .func (PySem.W.fnOf "_law_all_words" "_law_all_words" (defArgs s_all_words) (defBody s_all_words) (defScope s_all_words) .none kV_allw dc_allw pm_allw an_allw cd_allw ct_allw), sl_allw⟩)
    (c_allw : PySem.W.codeIn K cd_allw "_law_all_words" = true)
    (k_allw : PySem.W.keepIn K (.ref f_allw) = true)
    (a_somew : PySem.W.nsIn K mainGlobals "_law_some_words" = some (some (.ref f_somew)))
    (l_somew : K.lookup f_somew = some ⟨oc_somew, od_somew, .func (PySem.W.fnOf "_law_some_words" "_law_some_words" (defArgs s_some_words) (defBody s_some_words) (defScope s_some_words) .none kV_somew dc_somew pm_somew an_somew cd_somew ct_somew), sl_somew⟩)
    (c_somew : PySem.W.codeIn K cd_somew "_law_some_words" = true)
    (k_somew : PySem.W.keepIn K (.ref f_somew) = true)
    (a_many : PySem.W.nsIn K mainGlobals "_law_many" = some (some (.ref f_many)))
    (l_many : K.lookup f_many = some ⟨oc_many, od_many, .func (PySem.W.fnOf "_law_many" "_law_many" (defArgs s_many) (defBody s_many) (defScope s_many) .none kV_many dc_many pm_many an_many cd_many ct_many), sl_many⟩)
    (c_many : PySem.W.codeIn K cd_many "_law_many" = true)
    (k_many : PySem.W.keepIn K (.ref f_many) = true)
    (a_kept : PySem.W.nsIn K mainGlobals "_law_kept" = some (some (.ref f_kept)))
    (l_kept : K.lookup f_kept = some ⟨oc_kept, od_kept, .func (PySem.W.fnOf "_law_kept" "_law_kept" (defArgs s_kept) (defBody s_kept) (defScope s_kept) .none kV_kept dc_kept pm_kept an_kept cd_kept ct_kept), sl_kept⟩)
    (c_kept : PySem.W.codeIn K cd_kept "_law_kept" = true)
    (k_kept : PySem.W.keepIn K (.ref f_kept) = true)
    (a_isrow : PySem.W.nsIn K mainGlobals "is_row" = some (some (.ref f_isrow)))
    (l_isrow : K.lookup f_isrow = some ⟨oc_isrow, od_isrow, .func (PySem.W.fnOf "is_row" "is_row" (defArgs s_is_row) (defBody s_is_row) (defScope s_is_row) .none kV_isrow dc_isrow pm_isrow an_isrow cd_isrow ct_isrow), sl_isrow⟩)
    (c_isrow : PySem.W.codeIn K cd_isrow "is_row" = true)
    (k_isrow : PySem.W.keepIn K (.ref f_isrow) = true)
    (a_isword : PySem.W.nsIn K mainGlobals "is_word" = some (some (.ref f_isword)))
    (l_isword : K.lookup f_isword = some ⟨oc_isword, od_isword, .func (PySem.W.fnOf "is_word" "is_word" (defArgs s_is_word) (defBody s_is_word) (defScope s_is_word) .none kV_isword dc_isword pm_isword an_isword cd_isword ct_isword), sl_isword⟩)
    (c_isword : PySem.W.codeIn K cd_isword "is_word" = true)
    (k_isword : PySem.W.keepIn K (.ref f_isword) = true)
    (a_wkinit : PySem.W.findIn K (.ref C_Work) "__init__" = some (some (.ref f_wkinit)))
    (i_wkinit : PySem.W.isFn K (.ref f_wkinit) = true)
    (l_wkinit : K.lookup f_wkinit = some ⟨oc_wkinit, od_wkinit, .func (PySem.W.fnOf "__init__" "Work.__init__" (defArgs s_Work_init) (defBody s_Work_init) (defScope s_Work_init) .none kV_wkinit dc_wkinit pm_wkinit an_wkinit cd_wkinit ct_wkinit), sl_wkinit⟩)
    (c_wkinit : PySem.W.codeIn K cd_wkinit "Work.__init__" = true)
    (k_wkinit : PySem.W.keepIn K (.ref f_wkinit) = true)
    (a_wklen : PySem.W.findIn K (.ref C_Work) "__len__" = some (some (.ref f_wklen)))
    (i_wklen : PySem.W.isFn K (.ref f_wklen) = true)
    (l_wklen : K.lookup f_wklen = some ⟨oc_wklen, od_wklen, .func (PySem.W.fnOf "__len__" "Work.__len__" (defArgs s_Work_len) (defBody s_Work_len) (defScope s_Work_len) .none kV_wklen dc_wklen pm_wklen an_wklen cd_wklen ct_wklen), sl_wklen⟩)
    (c_wklen : PySem.W.codeIn K cd_wklen "Work.__len__" = true)
    (k_wklen : PySem.W.keepIn K (.ref f_wklen) = true)
    (a_wkin : PySem.W.findIn K (.ref C_Work) "__contains__" = some (some (.ref f_wkin)))
    (i_wkin : PySem.W.isFn K (.ref f_wkin) = true)
    (l_wkin : K.lookup f_wkin = some ⟨oc_wkin, od_wkin, .func (PySem.W.fnOf "__contains__" "Work.__contains__" (defArgs s_Work_contains) (defBody s_Work_contains) (defScope s_Work_contains) .none kV_wkin dc_wkin pm_wkin an_wkin cd_wkin ct_wkin), sl_wkin⟩)
    (c_wkin : PySem.W.codeIn K cd_wkin "Work.__contains__" = true)
    (k_wkin : PySem.W.keepIn K (.ref f_wkin) = true)
    (a_wkend : PySem.W.findIn K (.ref C_Work) "end_of" = some (some (.ref f_wkend)))
    (i_wkend : PySem.W.isFn K (.ref f_wkend) = true)
    (l_wkend : K.lookup f_wkend = some ⟨oc_wkend, od_wkend, .func (PySem.W.fnOf "end_of" "Work.end_of" (defArgs s_Work_end_of) (defBody s_Work_end_of) (defScope s_Work_end_of) .none kV_wkend dc_wkend pm_wkend an_wkend cd_wkend ct_wkend), sl_wkend⟩)
    (c_wkend : PySem.W.codeIn K cd_wkend "Work.end_of" = true)
    (k_wkend : PySem.W.keepIn K (.ref f_wkend) = true)
    (a_wkeq : PySem.W.findIn K (.ref C_Work) "__eq__" = some (some (.ref f_wkeq)))
    (i_wkeq : PySem.W.isFn K (.ref f_wkeq) = true)
    (l_wkeq : K.lookup f_wkeq = some ⟨oc_wkeq, od_wkeq, .func (PySem.W.fnOf "__eq__" "Work.__eq__" (defArgs s_Work_eq) (defBody s_Work_eq) (defScope s_Work_eq) .none kV_wkeq dc_wkeq pm_wkeq an_wkeq cd_wkeq ct_wkeq), sl_wkeq⟩)
    (c_wkeq : PySem.W.codeIn K cd_wkeq "Work.__eq__" = true)
    (k_wkeq : PySem.W.keepIn K (.ref f_wkeq) = true)
    (a_wkps : PySem.W.findIn K (.ref C_Work) "passages" = some (some (.ref f_wkps)))
    (i_wkps : PySem.W.isFn K (.ref f_wkps) = true)
    (l_wkps : K.lookup f_wkps = some ⟨oc_wkps, od_wkps, .func (PySem.W.fnOf "passages" "Work.passages" (defArgs s_Work_passages) (defBody s_Work_passages) (defScope s_Work_passages) .none kV_wkps dc_wkps pm_wkps an_wkps cd_wkps ct_wkps), sl_wkps⟩)
    (c_wkps : PySem.W.codeIn K cd_wkps "Work.passages" = true)
    (k_wkps : PySem.W.keepIn K (.ref f_wkps) = true)
    (a_cuts : PySem.W.nsIn K mainGlobals "cuts_behind" = some (some (.ref f_cuts)))
    (l_cuts : K.lookup f_cuts = some ⟨oc_cuts, od_cuts, .func (PySem.W.fnOf "cuts_behind" "cuts_behind" (defArgs s_cuts_behind) (defBody s_cuts_behind) (defScope s_cuts_behind) .none kV_cuts dc_cuts pm_cuts an_cuts cd_cuts ct_cuts), sl_cuts⟩)
    (c_cuts : PySem.W.codeIn K cd_cuts "cuts_behind" = true)
    (k_cuts : PySem.W.keepIn K (.ref f_cuts) = true)
    (a_counts : PySem.W.nsIn K mainGlobals "counts_at" = some (some (.ref f_counts)))
    (l_counts : K.lookup f_counts = some ⟨oc_counts, od_counts, .func (PySem.W.fnOf "counts_at" "counts_at" (defArgs s_counts_at) (defBody s_counts_at) (defScope s_counts_at) .none kV_counts dc_counts pm_counts an_counts cd_counts ct_counts), sl_counts⟩)
    (c_counts : PySem.W.codeIn K cd_counts "counts_at" = true)
    (k_counts : PySem.W.keepIn K (.ref f_counts) = true)
    (a_edinit : PySem.W.findIn K (.ref C_Edition) "__init__" = some (some (.ref f_edinit)))
    (i_edinit : PySem.W.isFn K (.ref f_edinit) = true)
    (l_edinit : K.lookup f_edinit = some ⟨oc_edinit, od_edinit, .func (PySem.W.fnOf "__init__" "Edition.__init__" (defArgs s_Edition_init) (defBody s_Edition_init) (defScope s_Edition_init) .none kV_edinit dc_edinit pm_edinit an_edinit cd_edinit ct_edinit), sl_edinit⟩)
    (c_edinit : PySem.W.codeIn K cd_edinit "Edition.__init__" = true)
    (k_edinit : PySem.W.keepIn K (.ref f_edinit) = true)
    (a_edps : PySem.W.findIn K (.ref C_Edition) "passages" = some (some (.ref f_edps)))
    (i_edps : PySem.W.isFn K (.ref f_edps) = true)
    (l_edps : K.lookup f_edps = some ⟨oc_edps, od_edps, .func (PySem.W.fnOf "passages" "Edition.passages" (defArgs s_Edition_passages) (defBody s_Edition_passages) (defScope s_Edition_passages) .none kV_edps dc_edps pm_edps an_edps cd_edps ct_edps), sl_edps⟩)
    (c_edps : PySem.W.codeIn K cd_edps "Edition.passages" = true)
    (k_edps : PySem.W.keepIn K (.ref f_edps) = true)
    (a_edeq : PySem.W.findIn K (.ref C_Edition) "__eq__" = some (some (.ref f_edeq)))
    (i_edeq : PySem.W.isFn K (.ref f_edeq) = true)
    (l_edeq : K.lookup f_edeq = some ⟨oc_edeq, od_edeq, .func (PySem.W.fnOf "__eq__" "Edition.__eq__" (defArgs s_Edition_eq) (defBody s_Edition_eq) (defScope s_Edition_eq) .none kV_edeq dc_edeq pm_edeq an_edeq cd_edeq ct_edeq), sl_edeq⟩)
    (c_edeq : PySem.W.codeIn K cd_edeq "Edition.__eq__" = true)
    (k_edeq : PySem.W.keepIn K (.ref f_edeq) = true)
    (a_onew : PySem.W.nsIn K mainGlobals "require_one_work" = some (some (.ref f_onew)))
    (l_onew : K.lookup f_onew = some ⟨oc_onew, od_onew, .func (PySem.W.fnOf "require_one_work" "require_one_work" (defArgs s_require_one_work) (defBody s_require_one_work) (defScope s_require_one_work) .none kV_onew dc_onew pm_onew an_onew cd_onew ct_onew), sl_onew⟩)
    (c_onew : PySem.W.codeIn K cd_onew "require_one_work" = true)
    (k_onew : PySem.W.keepIn K (.ref f_onew) = true)
    (a_edand : PySem.W.findIn K (.ref C_Edition) "__and__" = some (some (.ref f_edand)))
    (i_edand : PySem.W.isFn K (.ref f_edand) = true)
    (l_edand : K.lookup f_edand = some ⟨oc_edand, od_edand, .func (PySem.W.fnOf "__and__" "Edition.__and__" (defArgs s_Edition_and) (defBody s_Edition_and) (defScope s_Edition_and) .none kV_edand dc_edand pm_edand an_edand cd_edand ct_edand), sl_edand⟩)
    (c_edand : PySem.W.codeIn K cd_edand "Edition.__and__" = true)
    (k_edand : PySem.W.keepIn K (.ref f_edand) = true)
    (a_edor : PySem.W.findIn K (.ref C_Edition) "__or__" = some (some (.ref f_edor)))
    (i_edor : PySem.W.isFn K (.ref f_edor) = true)
    (l_edor : K.lookup f_edor = some ⟨oc_edor, od_edor, .func (PySem.W.fnOf "__or__" "Edition.__or__" (defArgs s_Edition_or) (defBody s_Edition_or) (defScope s_Edition_or) .none kV_edor dc_edor pm_edor an_edor cd_edor ct_edor), sl_edor⟩)
    (c_edor : PySem.W.codeIn K cd_edor "Edition.__or__" = true)
    (k_edor : PySem.W.keepIn K (.ref f_edor) = true)
    (a_edsub : PySem.W.findIn K (.ref C_Edition) "__sub__" = some (some (.ref f_edsub)))
    (i_edsub : PySem.W.isFn K (.ref f_edsub) = true)
    (l_edsub : K.lookup f_edsub = some ⟨oc_edsub, od_edsub, .func (PySem.W.fnOf "__sub__" "Edition.__sub__" (defArgs s_Edition_sub) (defBody s_Edition_sub) (defScope s_Edition_sub) .none kV_edsub dc_edsub pm_edsub an_edsub cd_edsub ct_edsub), sl_edsub⟩)
    (c_edsub : PySem.W.codeIn K cd_edsub "Edition.__sub__" = true)
    (k_edsub : PySem.W.keepIn K (.ref f_edsub) = true)
    (a_edle : PySem.W.findIn K (.ref C_Edition) "__le__" = some (some (.ref f_edle)))
    (i_edle : PySem.W.isFn K (.ref f_edle) = true)
    (l_edle : K.lookup f_edle = some ⟨oc_edle, od_edle, .func (PySem.W.fnOf "__le__" "Edition.__le__" (defArgs s_Edition_le) (defBody s_Edition_le) (defScope s_Edition_le) .none kV_edle dc_edle pm_edle an_edle cd_edle ct_edle), sl_edle⟩)
    (c_edle : PySem.W.codeIn K cd_edle "Edition.__le__" = true)
    (k_edle : PySem.W.keepIn K (.ref f_edle) = true)
    (a_edlt : PySem.W.findIn K (.ref C_Edition) "__lt__" = some (some (.ref f_edlt)))
    (i_edlt : PySem.W.isFn K (.ref f_edlt) = true)
    (l_edlt : K.lookup f_edlt = some ⟨oc_edlt, od_edlt, .func (PySem.W.fnOf "__lt__" "Edition.__lt__" (defArgs s_Edition_lt) (defBody s_Edition_lt) (defScope s_Edition_lt) .none kV_edlt dc_edlt pm_edlt an_edlt cd_edlt ct_edlt), sl_edlt⟩)
    (c_edlt : PySem.W.codeIn K cd_edlt "Edition.__lt__" = true)
    (k_edlt : PySem.W.keepIn K (.ref f_edlt) = true)
    (a_joined : PySem.W.nsIn K mainGlobals "_law_joined" = some (some (.ref f_joined)))
    (l_joined : K.lookup f_joined = some ⟨oc_joined, od_joined, .func (PySem.W.fnOf "_law_joined" "_law_joined" (defArgs s_joined) (defBody s_joined) (defScope s_joined) .none kV_joined dc_joined pm_joined an_joined cd_joined ct_joined), sl_joined⟩)
    (c_joined : PySem.W.codeIn K cd_joined "_law_joined" = true)
    (k_joined : PySem.W.keepIn K (.ref f_joined) = true)
    (a_due : PySem.W.nsIn K mainGlobals "_law_due" = some (some (.ref f_due)))
    (l_due : K.lookup f_due = some ⟨oc_due, od_due, .func (PySem.W.fnOf "_law_due" "_law_due" (defArgs s_due) (defBody s_due) (defScope s_due) .none kV_due dc_due pm_due an_due cd_due ct_due), sl_due⟩)
    (c_due : PySem.W.codeIn K cd_due "_law_due" = true)
    (k_due : PySem.W.keepIn K (.ref f_due) = true)
    (a_ordered : PySem.W.nsIn K mainGlobals "_law_ordered" = some (some (.ref f_ordered)))
    (l_ordered : K.lookup f_ordered = some ⟨oc_ordered, od_ordered, .func (PySem.W.fnOf "_law_ordered" "_law_ordered" (defArgs s_ordered) (defBody s_ordered) (defScope s_ordered) .none kV_ordered dc_ordered pm_ordered an_ordered cd_ordered ct_ordered), sl_ordered⟩)
    (c_ordered : PySem.W.codeIn K cd_ordered "_law_ordered" = true)
    (k_ordered : PySem.W.keepIn K (.ref f_ordered) = true)
    (a_isoth : PySem.W.nsIn K mainGlobals "_law_is_other" = some (some (.ref f_isoth)))
    (l_isoth : K.lookup f_isoth = some ⟨oc_isoth, od_isoth, .func (PySem.W.fnOf "_law_is_other" "_law_is_other" (defArgs s_is_other) (defBody s_is_other) (defScope s_is_other) .none kV_isoth dc_isoth pm_isoth an_isoth cd_isoth ct_isoth), sl_isoth⟩)
    (c_isoth : PySem.W.codeIn K cd_isoth "_law_is_other" = true)
    (k_isoth : PySem.W.keepIn K (.ref f_isoth) = true)
    (a_refused : PySem.W.nsIn K mainGlobals "_law_refused" = some (some (.ref f_refused)))
    (l_refused : K.lookup f_refused = some ⟨oc_refused, od_refused, .func (PySem.W.fnOf "_law_refused" "_law_refused" (defArgs s_refused) (defBody s_refused) (defScope s_refused) .none kV_refused dc_refused pm_refused an_refused (.ref Z_refused) ct_refused), sl_refused⟩)
    (c_refused : PySem.W.codeIn K (.ref Z_refused) "_law_refused" = true)
    (k_refused : PySem.W.keepIn K (.ref f_refused) = true)
    (lz_refused : K.lookup Z_refused = some ⟨oz_refused, oy_refused, .fields vz_refused, sz_refused⟩)
    (vz_refused : vz_refused[11]? = some (.ref Y_refused))
    (hz_refused : PySem.W.codeHdIn K Z_refused Y_refused = true)
    (nz_refused : K.lookup Y_refused = none)
    (tz_refused : h.get? Y_refused = some (PySem.W.tabObj #[]))
    (a_law : PySem.W.nsIn K mainGlobals "law" = some (some (.ref f_law)))
    (l_law : K.lookup f_law = some ⟨oc_law, od_law, .func (PySem.W.fnOf "law" "law" (defArgs s_law) (defBody s_law) (defScope s_law) .none kV_law dc_law pm_law an_law cd_law ct_law), sl_law⟩)
    (c_law : PySem.W.codeIn K cd_law "law" = true)
    (k_law : PySem.W.keepIn K (.ref f_law) = true)
    (g_LETTERS : PySem.W.nsIn K mainGlobals "LETTERS" = some (some (.str "abcdefghijklmnopqrstuvwxyz" tL)))
    (g_LONGEST_WORD : PySem.W.nsIn K mainGlobals "LONGEST_WORD" = some (some (.int 8 tW)))
    (z_len : PySem.W.nsIn K mainGlobals "len" = some none)
    (z_int : PySem.W.nsIn K mainGlobals "int" = some none)
    (z_range : PySem.W.nsIn K mainGlobals "range" = some none)
    (z_enumerate : PySem.W.nsIn K mainGlobals "enumerate" = some none)
    (z_isinstance : PySem.W.nsIn K mainGlobals "isinstance" = some none)
    (z_list : PySem.W.nsIn K mainGlobals "list" = some none)
    (z_tuple : PySem.W.nsIn K mainGlobals "tuple" = some none)
    (z_str : PySem.W.nsIn K mainGlobals "str" = some none)
    (z_bool : PySem.W.nsIn K mainGlobals "bool" = some none)
    (z_all : PySem.W.nsIn K mainGlobals "all" = some none)
    (z_max : PySem.W.nsIn K mainGlobals "max" = some none)
    (z_zip : PySem.W.nsIn K mainGlobals "zip" = some none)
    : LamX.LawAtS l w K CX0 12 63 "_law_script" mg fa h := by
  have e := hfa.symm.trans (PySem.W.mg_of X G a_law)
  cases e
  have T : Blt mg := ⟨PySem.W.mg_none_of X G z_len, PySem.W.mg_none_of X G z_int, PySem.W.mg_none_of X G z_range, PySem.W.mg_none_of X G z_enumerate, PySem.W.mg_none_of X G z_isinstance, PySem.W.mg_none_of X G z_list, PySem.W.mg_none_of X G z_tuple, PySem.W.mg_none_of X G z_str, PySem.W.mg_none_of X G z_bool, PySem.W.mg_none_of X G z_all, PySem.W.mg_none_of X G z_max, PySem.W.mg_none_of X G z_zip⟩
  have cl_Work : Cls K C_Work := ⟨pg_Work, hd_Work, po_Work, sa_Work⟩
  have mg_Work := PySem.W.mg_of X G a_Work
  have cl_Edition : Cls K C_Edition := ⟨pg_Edition, hd_Edition, po_Edition, sa_Edition⟩
  have mg_Edition := PySem.W.mg_of X G a_Edition
  have TC : Cst mg tL tW := ⟨PySem.W.mg_of X G g_LETTERS, PySem.W.mg_of X G g_LONGEST_WORD⟩
  have WT : WkTxt K C_Work := ⟨cl_Work, n_Work_name, n_Work_words, n_Work_ends⟩
  have ET : EdTxt K C_Edition := ⟨cl_Edition, n_Edition_work, n_Edition_words, n_Edition_cuts, n_Edition_counts⟩
  have TI : WkIsi K mg C_Work := ⟨mg_Work, ha_Work, hn_Work, htk_Work, hm_Work, if_pos (beq_self_eq_true _)⟩
  have EI : EdIsi K mg C_Edition := ⟨mg_Edition, ha_Edition, hn_Work, htk_Work, hm_Edition, if_pos (beq_self_eq_true _)⟩
  have TN : WkNe K C_Work := ⟨ne_Work, ob_Work⟩
  have SF : SfE K C_Edition := ⟨sf_Edition⟩
  have TO : ErrTxt K mg "OtherWork" C_OW := ⟨PySem.W.mg_of X G aOW_Work, xOW_Work, kOW_Work, bOW_Work, tOW_Work, iOW_Work, sOW_Work⟩
  have neC : C_Edition ≠ C_Work := fun q => by rw [q, self_Work] at ed_Edition; cases ed_Edition
  have TL : LawTxtE K mg C_Work C_Edition := { toBlt := T, b_any := PySem.W.mg_none_of X G zany_Work, ne_Edition := ne_Edition, ob_Edition := ob_Edition, tn := eqTxt_of hd_Edition ty_Edition tNoneType_Edition (fun z => nomatch z), ti := eqTxt_of hd_Edition ty_Edition tint_Edition (fun z => nomatch z), tl := eqTxt_of hd_Edition ty_Edition tlist_Edition (fun z => nomatch z), tt := eqTxt_of hd_Edition ty_Edition ttuple_Edition (fun z => nomatch z), we := eqTxt_of hd_Work ty_Work ed_Edition (fun z => neC (Value.ref.inj z)), ew := eqTxt_of hd_Edition ty_Edition wk_Edition (fun z => neC (Value.ref.inj z).symm), ww := nf_self, ee := nf_self, sn := uNoneType_Edition, si := uint_Edition, sl := ulist_Edition, st := utuple_Edition }
  have F_fresh := fun_mk (st := s_fresh) l_fresh c_fresh k_fresh
  have b_fresh := F_fresh.binds (ps := ["_law_script"]) fun _ _ _ _ _ _ us hl => match us, hl with | [_], _ => rfl
  have F_fill := fun_mk (st := s_fill) l_fill c_fill k_fill
  have b_fill := F_fill.binds (ps := ["_law_state"]) fun _ _ _ _ _ _ us hl => match us, hl with | [_], _ => rfl
  have F_take := fun_mk (st := s_take) l_take c_take k_take
  have b_take := F_take.binds (ps := ["_law_state", "_law_many_here"]) fun _ _ _ _ _ _ us hl => match us, hl with | [_, _], _ => rfl
  have F_one := fun_mk (st := s_one) l_one c_one k_one
  have b_one := F_one.binds (ps := ["_law_state", "_law_things"]) fun _ _ _ _ _ _ us hl => match us, hl with | [_, _], _ => rfl
  have F_same := fun_mk (st := s_same) l_same c_same k_same
  have b_same := F_same.binds (ps := ["_law_found", "_law_due_here"]) fun _ _ _ _ _ _ us hl => match us, hl with | [_, _], _ => rfl
  have F_allw := fun_mk (st := s_all_words) l_allw c_allw k_allw
  have b_allw := F_allw.binds (ps := []) fun _ _ _ _ _ _ us hl => match us, hl with | [], _ => rfl
  have F_somew := fun_mk (st := s_some_words) l_somew c_somew k_somew
  have b_somew := F_somew.binds (ps := ["_law_state", "_law_many_here"]) fun _ _ _ _ _ _ us hl => match us, hl with | [_, _], _ => rfl
  have F_many := fun_mk (st := s_many) l_many c_many k_many
  have b_many := F_many.binds (ps := ["_law_state"]) fun _ _ _ _ _ _ us hl => match us, hl with | [_], _ => rfl
  have F_kept := fun_mk (st := s_kept) l_kept c_kept k_kept
  have b_kept := F_kept.binds (ps := ["_law_state", "_law_many_here"]) fun _ _ _ _ _ _ us hl => match us, hl with | [_, _], _ => rfl
  have F_isrow := fun_mk (st := s_is_row) l_isrow c_isrow k_isrow
  have b_isrow := F_isrow.binds (ps := ["x"]) fun _ _ _ _ _ _ us hl => match us, hl with | [_], _ => rfl
  have F_isword := fun_mk (st := s_is_word) l_isword c_isword k_isword
  have b_isword := F_isword.binds (ps := ["x"]) fun _ _ _ _ _ _ us hl => match us, hl with | [_], _ => rfl
  have F_wkinit := fun_mk (st := s_Work_init) l_wkinit c_wkinit k_wkinit
  have b_wkinit := F_wkinit.binds (ps := ["self", "name", "passages"]) fun _ _ _ _ _ _ us hl => match us, hl with | [_, _, _], _ => rfl
  have F_wklen := fun_mk (st := s_Work_len) l_wklen c_wklen k_wklen
  have b_wklen := F_wklen.binds (ps := ["self"]) fun _ _ _ _ _ _ us hl => match us, hl with | [_], _ => rfl
  have F_wkin := fun_mk (st := s_Work_contains) l_wkin c_wkin k_wkin
  have b_wkin := F_wkin.binds (ps := ["self", "x"]) fun _ _ _ _ _ _ us hl => match us, hl with | [_, _], _ => rfl
  have F_wkend := fun_mk (st := s_Work_end_of) l_wkend c_wkend k_wkend
  have b_wkend := F_wkend.binds (ps := ["self", "word"]) fun _ _ _ _ _ _ us hl => match us, hl with | [_, _], _ => rfl
  have F_wkeq := fun_mk (st := s_Work_eq) l_wkeq c_wkeq k_wkeq
  have b_wkeq := F_wkeq.binds (ps := ["self", "other"]) fun _ _ _ _ _ _ us hl => match us, hl with | [_, _], _ => rfl
  have F_wkps := fun_mk (st := s_Work_passages) l_wkps c_wkps k_wkps
  have b_wkps := F_wkps.binds (ps := ["self"]) fun _ _ _ _ _ _ us hl => match us, hl with | [_], _ => rfl
  have F_cuts := fun_mk (st := s_cuts_behind) l_cuts c_cuts k_cuts
  have b_cuts := F_cuts.binds (ps := ["work", "passages"]) fun _ _ _ _ _ _ us hl => match us, hl with | [_, _], _ => rfl
  have F_counts := fun_mk (st := s_counts_at) l_counts c_counts k_counts
  have b_counts := F_counts.binds (ps := ["cuts", "length"]) fun _ _ _ _ _ _ us hl => match us, hl with | [_, _], _ => rfl
  have F_edinit := fun_mk (st := s_Edition_init) l_edinit c_edinit k_edinit
  have b_edinit := F_edinit.binds (ps := ["self", "work", "passages"]) fun _ _ _ _ _ _ us hl => match us, hl with | [_, _, _], _ => rfl
  have F_edps := fun_mk (st := s_Edition_passages) l_edps c_edps k_edps
  have b_edps := F_edps.binds (ps := ["self"]) fun _ _ _ _ _ _ us hl => match us, hl with | [_], _ => rfl
  have F_edeq := fun_mk (st := s_Edition_eq) l_edeq c_edeq k_edeq
  have b_edeq := F_edeq.binds (ps := ["self", "other"]) fun _ _ _ _ _ _ us hl => match us, hl with | [_, _], _ => rfl
  have F_onew := fun_mk (st := s_require_one_work) l_onew c_onew k_onew
  have b_onew := F_onew.binds (ps := ["one", "other"]) fun _ _ _ _ _ _ us hl => match us, hl with | [_, _], _ => rfl
  have F_edand := fun_mk (st := s_Edition_and) l_edand c_edand k_edand
  have b_edand := F_edand.binds (ps := ["self", "other"]) fun _ _ _ _ _ _ us hl => match us, hl with | [_, _], _ => rfl
  have F_edor := fun_mk (st := s_Edition_or) l_edor c_edor k_edor
  have b_edor := F_edor.binds (ps := ["self", "other"]) fun _ _ _ _ _ _ us hl => match us, hl with | [_, _], _ => rfl
  have F_edsub := fun_mk (st := s_Edition_sub) l_edsub c_edsub k_edsub
  have b_edsub := F_edsub.binds (ps := ["self", "other"]) fun _ _ _ _ _ _ us hl => match us, hl with | [_, _], _ => rfl
  have F_edle := fun_mk (st := s_Edition_le) l_edle c_edle k_edle
  have b_edle := F_edle.binds (ps := ["self", "other"]) fun _ _ _ _ _ _ us hl => match us, hl with | [_, _], _ => rfl
  have F_edlt := fun_mk (st := s_Edition_lt) l_edlt c_edlt k_edlt
  have b_edlt := F_edlt.binds (ps := ["self", "other"]) fun _ _ _ _ _ _ us hl => match us, hl with | [_, _], _ => rfl
  have F_joined := fun_mk (st := s_joined) l_joined c_joined k_joined
  have b_joined := F_joined.binds (ps := ["_law_way", "_law_x", "_law_y"]) fun _ _ _ _ _ _ us hl => match us, hl with | [_, _, _], _ => rfl
  have F_due := fun_mk (st := s_due) l_due c_due k_due
  have b_due := F_due.binds (ps := ["_law_way", "_law_some", "_law_others", "_law_many_here"]) fun _ _ _ _ _ _ us hl => match us, hl with | [_, _, _, _], _ => rfl
  have F_ordered := fun_mk (st := s_ordered) l_ordered c_ordered k_ordered
  have b_ordered := F_ordered.binds (ps := ["_law_x", "_law_y"]) fun _ _ _ _ _ _ us hl => match us, hl with | [_, _], _ => rfl
  have F_isoth := fun_mk (st := s_is_other) l_isoth c_isoth k_isoth
  have b_isoth := F_isoth.binds (ps := ["_law_ask"]) fun _ _ _ _ _ _ us hl => match us, hl with | [_], _ => rfl
  have F_refused := fun_mk (st := s_refused) l_refused c_refused k_refused
  have b_refused := F_refused.binds (ps := ["_law_x", "_law_y"]) fun _ _ _ _ _ _ us hl => match us, hl with | [_, _], _ => rfl
  have F_law := fun_mk (st := s_law) l_law c_law k_law
  refine ⟨PySem.W.fnOf "law" "law" (defArgs s_law) (defBody s_law) (defScope s_law) .none kV_law dc_law pm_law an_law cd_law ct_law, [(Z_refused, Y_refused)], spLawT K Y_refused, ?_, ?_, ?_, fun s v => .of_eq rfl, fun H a ns hl _ hT hS => ⟨a, ns, rfl, hS, hl, hT _ (List.mem_singleton.mpr rfl), fun _ => rfl⟩, fun base _ _ hTB => ?_⟩
  · exact List.forall_mem_cons.mpr ⟨tz_refused, fun _ h => nomatch h⟩
  · exact List.forall_mem_cons.mpr ⟨nz_refused, fun _ h => nomatch h⟩
  · exact List.forall_mem_cons.mpr ⟨PySem.W.codeHd_of_K X hz_refused, fun _ h => nomatch h⟩
  have TB_refused : LamX.TabB base mg Z_refused Y_refused := hTB (Z_refused, Y_refused) (by simp)
  have O_fresh : FnOk l.prog w K mg base CX0 1 f_fresh _ ["_law_script"] (spFresh K) := ok_fresh F_fresh T
  have D_fresh : DefOk l.prog w K mg base 1 "_law_fresh" f_fresh _ ["_law_script"] (spFresh K) := ⟨O_fresh, k_fresh, b_fresh, PySem.W.mg_of X G a_fresh⟩
  have O_fill : FnOk l.prog w K mg base CX0 1 f_fill _ ["_law_state"] spFill := ok_fill F_fill T
  have D_fill : DefOk l.prog w K mg base 1 "_law_fill" f_fill _ ["_law_state"] spFill := ⟨O_fill, k_fill, b_fill, PySem.W.mg_of X G a_fill⟩
  have O_take : FnOk l.prog w K mg base CX0 2 f_take _ ["_law_state", "_law_many_here"] spTake := ok_take F_take T D_fill
  have D_take : DefOk l.prog w K mg base 2 "_law_take" f_take _ ["_law_state", "_law_many_here"] spTake := ⟨O_take, k_take, b_take, PySem.W.mg_of X G a_take⟩
  have O_one : FnOk l.prog w K mg base CX0 3 f_one _ ["_law_state", "_law_things"] (spOneA K) := ok_oneA F_one T D_take
  have D_one : DefOk l.prog w K mg base 3 "_law_one" f_one _ ["_law_state", "_law_things"] (spOneA K) := ⟨O_one, k_one, b_one, PySem.W.mg_of X G a_one⟩
  have O_same : FnOk l.prog w K mg base CX0 3 f_same _ ["_law_found", "_law_due_here"] (spSame 3) := (ok_same (d := 2) F_same T ⟨(ok_same (d := 1) F_same T ⟨(ok_same (d := 0) F_same T ⟨(ok_none.imp fun _ _ _ _ ⟨_, _, _, h, _⟩ => h.elim), k_same, b_same, PySem.W.mg_of X G a_same⟩), k_same, b_same, PySem.W.mg_of X G a_same⟩), k_same, b_same, PySem.W.mg_of X G a_same⟩)
  have D_same : DefOk l.prog w K mg base 3 "_law_same" f_same _ ["_law_found", "_law_due_here"] (spSame 3) := ⟨O_same, k_same, b_same, PySem.W.mg_of X G a_same⟩
  have O_allw : FnOk l.prog w K mg base CX0 1 f_allw _ [] spAllW := ok_all_words F_allw T
  have D_all_words : DefOk l.prog w K mg base 1 "_law_all_words" f_allw _ [] spAllW := ⟨O_allw, k_allw, b_allw, PySem.W.mg_of X G a_allw⟩
  have O_somew : FnOk l.prog w K mg base CX0 3 f_somew _ ["_law_state", "_law_many_here"] spSomeWA := ok_some_wordsA F_somew T D_take D_all_words
  have D_some_words : DefOk l.prog w K mg base 3 "_law_some_words" f_somew _ ["_law_state", "_law_many_here"] spSomeWA := ⟨O_somew, k_somew, b_somew, PySem.W.mg_of X G a_somew⟩
  have O_many : FnOk l.prog w K mg base CX0 4 f_many _ ["_law_state"] spMany := ok_many F_many D_one
  have D_many : DefOk l.prog w K mg base 4 "_law_many" f_many _ ["_law_state"] spMany := ⟨O_many, k_many, b_many, PySem.W.mg_of X G a_many⟩
  have O_kept : FnOk l.prog w K mg base CX0 4 f_kept _ ["_law_state", "_law_many_here"] spKept := ok_kept F_kept T D_take ⟨(ok_one F_one T D_take), k_one, b_one, PySem.W.mg_of X G a_one⟩
  have D_kept : DefOk l.prog w K mg base 4 "_law_kept" f_kept _ ["_law_state", "_law_many_here"] spKept := ⟨O_kept, k_kept, b_kept, PySem.W.mg_of X G a_kept⟩
  have O_isrow : FnOk l.prog w K mg base CX0 1 f_isrow _ ["x"] spIsRow := ok_is_row F_isrow T
  have D_is_row : DefOk l.prog w K mg base 1 "is_row" f_isrow _ ["x"] spIsRow := ⟨O_isrow, k_isrow, b_isrow, PySem.W.mg_of X G a_isrow⟩
  have O_isword : FnOk l.prog w K mg base CX0 1 f_isword _ ["x"] spIsWord := ok_is_word F_isword T TC
  have D_is_word : DefOk l.prog w K mg base 1 "is_word" f_isword _ ["x"] spIsWord := ⟨O_isword, k_isword, b_isword, PySem.W.mg_of X G a_isword⟩
  have O_wkinit : FnOk l.prog w K mg base CX0 2 f_wkinit _ ["self", "name", "passages"] (spWkInit C_Work) := ok_wk_init F_wkinit T WT D_is_word D_is_row
  have K_Work : ClsOk l.prog w K mg base 2 "Work" C_Work f_wkinit _ ["self", "name", "passages"] (spWkInit C_Work) := ⟨O_wkinit, b_wkinit, ⟨mk_Work, a_wkinit, i_wkinit, kc_Work⟩, cl_Work, mg_Work⟩
  have O_wklen : FnOk l.prog w K mg base CX0 1 f_wklen _ ["self"] (spWkLen C_Work) := ok_wk_len F_wklen T WT
  have M_Work_len : MetOk l.prog w K mg base 1 C_Work "__len__" f_wklen _ ["self"] (spWkLen C_Work) := ⟨O_wklen, b_wklen, ⟨a_wklen, i_wklen, k_wklen⟩, cl_Work⟩
  have O_wkin : FnOk l.prog w K mg base CX0 1 f_wkin _ ["self", "x"] (spWkIn C_Work) := ok_wk_in F_wkin T WT
  have M_Work_contains : MetOk l.prog w K mg base 1 C_Work "__contains__" f_wkin _ ["self", "x"] (spWkIn C_Work) := ⟨O_wkin, b_wkin, ⟨a_wkin, i_wkin, k_wkin⟩, cl_Work⟩
  have O_wkend : FnOk l.prog w K mg base CX0 2 f_wkend _ ["self", "word"] (spWkEnd C_Work) := ok_wk_end F_wkend T WT M_Work_contains
  have M_Work_end_of : MetOk l.prog w K mg base 2 C_Work "end_of" f_wkend _ ["self", "word"] (spWkEnd C_Work) := ⟨O_wkend, b_wkend, ⟨a_wkend, i_wkend, k_wkend⟩, cl_Work⟩
  have O_wkeq : FnOk l.prog w K mg base CX0 1 f_wkeq _ ["self", "other"] (spWkEqA K C_Work) := ok_wk_eqA F_wkeq T WT TI
  have M_Work_eq : MetOk l.prog w K mg base 1 C_Work "__eq__" f_wkeq _ ["self", "other"] (spWkEqA K C_Work) := ⟨O_wkeq, b_wkeq, ⟨a_wkeq, i_wkeq, k_wkeq⟩, cl_Work⟩
  have M_Work_eq0 : MetOk l.prog w K mg base 1 C_Work "__eq__" f_wkeq _ ["self", "other"] (spWkEq C_Work) := ⟨ok_wk_eq F_wkeq T WT TI, b_wkeq, ⟨a_wkeq, i_wkeq, k_wkeq⟩, cl_Work⟩
  have O_wkps : FnOk l.prog w K mg base CX0 1 f_wkps _ ["self"] (spWkPs C_Work) := ok_wk_ps F_wkps T WT
  have M_Work_passages : MetOk l.prog w K mg base 1 C_Work "passages" f_wkps _ ["self"] (spWkPs C_Work) := ⟨O_wkps, b_wkps, ⟨a_wkps, i_wkps, k_wkps⟩, cl_Work⟩
  have O_cuts : FnOk l.prog w K mg base CX0 3 f_cuts _ ["work", "passages"] (spCuts C_Work) := ok_cuts F_cuts T D_is_row M_Work_end_of
  have D_cuts_behind : DefOk l.prog w K mg base 3 "cuts_behind" f_cuts _ ["work", "passages"] (spCuts C_Work) := ⟨O_cuts, k_cuts, b_cuts, PySem.W.mg_of X G a_cuts⟩
  have O_counts : FnOk l.prog w K mg base CX0 1 f_counts _ ["cuts", "length"] spCounts := ok_counts F_counts T
  have D_counts_at : DefOk l.prog w K mg base 1 "counts_at" f_counts _ ["cuts", "length"] spCounts := ⟨O_counts, k_counts, b_counts, PySem.W.mg_of X G a_counts⟩
  have O_edinit : FnOk l.prog w K mg base CX0 4 f_edinit _ ["self", "work", "passages"] (spEdInit C_Work C_Edition) := ok_ed_init F_edinit T ET D_cuts_behind D_counts_at M_Work_len
  have K_Edition : ClsOk l.prog w K mg base 4 "Edition" C_Edition f_edinit _ ["self", "work", "passages"] (spEdInit C_Work C_Edition) := ⟨O_edinit, b_edinit, ⟨mk_Edition, a_edinit, i_edinit, kc_Edition⟩, cl_Edition, mg_Edition⟩
  have O_edps : FnOk l.prog w K mg base CX0 1 f_edps _ ["self"] (spEdPs C_Work C_Edition) := ok_ed_ps F_edps T ET
  have M_Edition_passages : MetOk l.prog w K mg base 1 C_Edition "passages" f_edps _ ["self"] (spEdPs C_Work C_Edition) := ⟨O_edps, b_edps, ⟨a_edps, i_edps, k_edps⟩, cl_Edition⟩
  have O_edeq : FnOk l.prog w K mg base CX0 2 f_edeq _ ["self", "other"] (spEdEqA K C_Work C_Edition) := ok_ed_eqA F_edeq T ET EI M_Work_eq
  have M_Edition_eq : MetOk l.prog w K mg base 2 C_Edition "__eq__" f_edeq _ ["self", "other"] (spEdEqA K C_Work C_Edition) := ⟨O_edeq, b_edeq, ⟨a_edeq, i_edeq, k_edeq⟩, cl_Edition⟩
  have O_onew : FnOk l.prog w K mg base CX0 3 f_onew _ ["one", "other"] (spOneW C_Work C_Edition) := ok_onew F_onew ET TN M_Work_eq0
  have D_require_one_work : DefOk l.prog w K mg base 3 "require_one_work" f_onew _ ["one", "other"] (spOneW C_Work C_Edition) := ⟨O_onew, k_onew, b_onew, PySem.W.mg_of X G a_onew⟩
  have D_oneX : DefOkX l.prog w K mg base 3 "require_one_work" f_onew _ ["one", "other"] (spOneX C_Work C_Edition C_OW) := ⟨ok_onewX F_onew ET TN TO M_Work_eq0, k_onew, b_onew, PySem.W.mg_of X G a_onew⟩
  have O_edand : FnOk l.prog w K mg base CX0 6 f_edand _ ["self", "other"] (spJoin C_Work C_Edition fun a b => a && b) := ok_and F_edand ET D_require_one_work K_Edition
  have M_Edition_and : MetOk l.prog w K mg base 6 C_Edition "__and__" f_edand _ ["self", "other"] (spJoin C_Work C_Edition fun a b => a && b) := ⟨O_edand, b_edand, ⟨a_edand, i_edand, k_edand⟩, cl_Edition⟩
  have MX_edand : MetOkX l.prog w K mg base 6 C_Edition "__and__" f_edand _ ["self", "other"] (spOneX C_Work C_Edition C_OW) := ⟨ok_andX F_edand D_oneX K_Edition, b_edand, ⟨a_edand, i_edand, k_edand⟩, cl_Edition⟩
  have O_edor : FnOk l.prog w K mg base CX0 6 f_edor _ ["self", "other"] (spJoin C_Work C_Edition fun a b => a || b) := ok_or F_edor ET WT D_require_one_work K_Edition
  have M_Edition_or : MetOk l.prog w K mg base 6 C_Edition "__or__" f_edor _ ["self", "other"] (spJoin C_Work C_Edition fun a b => a || b) := ⟨O_edor, b_edor, ⟨a_edor, i_edor, k_edor⟩, cl_Edition⟩
  have MX_edor : MetOkX l.prog w K mg base 6 C_Edition "__or__" f_edor _ ["self", "other"] (spOneX C_Work C_Edition C_OW) := ⟨ok_orX F_edor T D_oneX K_Edition, b_edor, ⟨a_edor, i_edor, k_edor⟩, cl_Edition⟩
  have O_edsub : FnOk l.prog w K mg base CX0 6 f_edsub _ ["self", "other"] (spJoin C_Work C_Edition fun a b => a && !b) := ok_sub F_edsub ET D_require_one_work K_Edition
  have M_Edition_sub : MetOk l.prog w K mg base 6 C_Edition "__sub__" f_edsub _ ["self", "other"] (spJoin C_Work C_Edition fun a b => a && !b) := ⟨O_edsub, b_edsub, ⟨a_edsub, i_edsub, k_edsub⟩, cl_Edition⟩
  have MX_edsub : MetOkX l.prog w K mg base 6 C_Edition "__sub__" f_edsub _ ["self", "other"] (spOneX C_Work C_Edition C_OW) := ⟨ok_subX F_edsub D_oneX K_Edition, b_edsub, ⟨a_edsub, i_edsub, k_edsub⟩, cl_Edition⟩
  have O_edle : FnOk l.prog w K mg base CX0 4 f_edle _ ["self", "other"] (spLe C_Work C_Edition) := ok_le F_edle T ET D_require_one_work
  have M_Edition_le : MetOk l.prog w K mg base 4 C_Edition "__le__" f_edle _ ["self", "other"] (spLe C_Work C_Edition) := ⟨O_edle, b_edle, ⟨a_edle, i_edle, k_edle⟩, cl_Edition⟩
  have MX_edle : MetOkX l.prog w K mg base 6 C_Edition "__le__" f_edle _ ["self", "other"] (spOneX C_Work C_Edition C_OW) := ⟨ok_leX F_edle T D_oneX, b_edle, ⟨a_edle, i_edle, k_edle⟩, cl_Edition⟩
  have O_edlt : FnOk l.prog w K mg base CX0 5 f_edlt _ ["self", "other"] (spLt C_Work C_Edition) := ok_lt F_edlt T ET M_Edition_le
  have M_Edition_lt : MetOk l.prog w K mg base 5 C_Edition "__lt__" f_edlt _ ["self", "other"] (spLt C_Work C_Edition) := ⟨O_edlt, b_edlt, ⟨a_edlt, i_edlt, k_edlt⟩, cl_Edition⟩
  have MX_edlt : MetOkX l.prog w K mg base 7 C_Edition "__lt__" f_edlt _ ["self", "other"] (spOneX C_Work C_Edition C_OW) := ⟨ok_ltX F_edlt T MX_edle, b_edlt, ⟨a_edlt, i_edlt, k_edlt⟩, cl_Edition⟩
  have O_joined : FnOk l.prog w K mg base CX0 7 f_joined _ ["_law_way", "_law_x", "_law_y"] (spJoined C_Work C_Edition) := ok_joined F_joined SF M_Edition_and M_Edition_or M_Edition_sub
  have D_joined : DefOk l.prog w K mg base 7 "_law_joined" f_joined _ ["_law_way", "_law_x", "_law_y"] (spJoined C_Work C_Edition) := ⟨O_joined, k_joined, b_joined, PySem.W.mg_of X G a_joined⟩
  have O_due : FnOk l.prog w K mg base CX0 1 f_due _ ["_law_way", "_law_some", "_law_others", "_law_many_here"] spDueJ := ok_due F_due T
  have D_due : DefOk l.prog w K mg base 1 "_law_due" f_due _ ["_law_way", "_law_some", "_law_others", "_law_many_here"] spDueJ := ⟨O_due, k_due, b_due, PySem.W.mg_of X G a_due⟩
  have O_ordered : FnOk l.prog w K mg base CX0 6 f_ordered _ ["_law_x", "_law_y"] (spOrd C_Work C_Edition) := ok_ordered F_ordered M_Edition_le M_Edition_lt
  have D_ordered : DefOk l.prog w K mg base 6 "_law_ordered" f_ordered _ ["_law_x", "_law_y"] (spOrd C_Work C_Edition) := ⟨O_ordered, k_ordered, b_ordered, PySem.W.mg_of X G a_ordered⟩
  have O_refused : FnOk l.prog w K mg base CX0 10 f_refused _ ["_law_x", "_law_y"] (spRefusedO C_Work C_Edition Y_refused) := ok_refusedO F_refused rfl T F_isoth b_isoth (PySem.W.mg_of X G a_isoth) (PySem.W.mg_of X G aOW_Work) TB_refused TO.exm SF.sf_Edition MX_edand MX_edor MX_edsub MX_edle MX_edlt
  have D_refused : DefOk l.prog w K mg base 10 "_law_refused" f_refused _ ["_law_x", "_law_y"] (spRefusedO C_Work C_Edition Y_refused) := ⟨O_refused, k_refused, b_refused, PySem.W.mg_of X G a_refused⟩
  exact ok_law F_law TL WT TI ET EI D_fresh D_take D_one D_many D_some_words D_kept D_joined D_due D_ordered D_same D_refused K_Work K_Edition M_Work_passages M_Edition_passages M_Work_eq M_Edition_eq
theorem walk {l : PySem.W.OpenLaw} {q : Program} {loose : List Str} {XP : (Str → Option Value) → Heap → Prop} {YP : World → Heap → Prop} {d : DefRec} {K : Params → PySem.W.Frag} (hn : l.most = some 63) (hdf : d.params.defaults = [])
    (hY : ∀ (w : World) (h : Heap), YP w h → (K w.params).In h)
    (F : ∀ (w : World) (mg : Str → Option Value) (fa : Addr) (h : Heap), YP w h → (K w.params).In h → h.Ns mainGlobals mg → mg d.name = some (.ref fa) → LamX.LawAtS l w (K w.params) CX0 12 63 "_law_script" mg fa h) :
    PySem.W.WalkO q loose XP YP l.row.toRowW d [] (fun f vs => PySem.call f vs) :=
  LamX.walk_ofTs (n := 63) (k := 12) (x := "_law_script") (CX := fun _ => CX0) hn (by decide) hdf ⟨rfl, by decide, by decide⟩ hY F fun _ _ _ _ _ z => z
end Lm

open PySem PySem.W PyProof.Rows
set_option maxRecDepth 100000 in
set_option maxHeartbeats 0 in
theorem PySem.Challenge.cw_leafmarks_k06_editions_joined_holds : PySem.Challenge.rw_leafmarks_k06_editions_joined.Holds := by
  w_on; o_law; k_head; (case hw => w_witness2)
  k_fill
  refine Lm.walk (l := PySem.Challenge.rw_leafmarks_k06_editions_joined) rfl rfl (fun w h Y => PySem.W.km_in_of Y) ?F
  case F =>
    intro w mg fa h YY KX G hmg
    refine' Lm.all_mk KX G hmg ?a_Work ?pg_Work ?hd_Work ?po_Work ?sa_Work ?mk_Work ?kc_Work ?n_Work_name ?n_Work_words ?n_Work_ends ?aOW_Work ?xOW_Work ?kOW_Work ?bOW_Work ?tOW_Work ?iOW_Work ?sOW_Work ?ha_Work ?hn_Work ?htk_Work ?hm_Work ?ne_Work ?ob_Work ?ty_Work ?self_Work ?zany_Work ?a_Edition ?pg_Edition ?hd_Edition ?po_Edition ?sa_Edition ?mk_Edition ?kc_Edition ?n_Edition_work ?n_Edition_words ?n_Edition_cuts ?n_Edition_counts ?sf_Edition ?ha_Edition ?hm_Edition ?ne_Edition ?ob_Edition ?ty_Edition ?ed_Edition ?wk_Edition ?tNoneType_Edition ?tint_Edition ?tlist_Edition ?ttuple_Edition ?uNoneType_Edition ?uint_Edition ?ulist_Edition ?utuple_Edition ?a_fresh ?l_fresh ?c_fresh ?k_fresh ?a_fill ?l_fill ?c_fill ?k_fill ?a_take ?l_take ?c_take ?k_take ?a_one ?l_one ?c_one ?k_one ?a_same ?l_same ?c_same ?k_same ?a_allw ?l_allw ?c_allw ?k_allw ?a_somew ?l_somew ?c_somew ?k_somew ?a_many ?l_many ?c_many ?k_many ?a_kept ?l_kept ?c_kept ?k_kept ?a_isrow ?l_isrow ?c_isrow ?k_isrow ?a_isword ?l_isword ?c_isword ?k_isword ?a_wkinit ?i_wkinit ?l_wkinit ?c_wkinit ?k_wkinit ?a_wklen ?i_wklen ?l_wklen ?c_wklen ?k_wklen ?a_wkin ?i_wkin ?l_wkin ?c_wkin ?k_wkin ?a_wkend ?i_wkend ?l_wkend ?c_wkend ?k_wkend ?a_wkeq ?i_wkeq ?l_wkeq ?c_wkeq ?k_wkeq ?a_wkps ?i_wkps ?l_wkps ?c_wkps ?k_wkps ?a_cuts ?l_cuts ?c_cuts ?k_cuts ?a_counts ?l_counts ?c_counts ?k_counts ?a_edinit ?i_edinit ?l_edinit ?c_edinit ?k_edinit ?a_edps ?i_edps ?l_edps ?c_edps ?k_edps ?a_edeq ?i_edeq ?l_edeq ?c_edeq ?k_edeq ?a_onew ?l_onew ?c_onew ?k_onew ?a_edand ?i_edand ?l_edand ?c_edand ?k_edand ?a_edor ?i_edor ?l_edor ?c_edor ?k_edor ?a_edsub ?i_edsub ?l_edsub ?c_edsub ?k_edsub ?a_edle ?i_edle ?l_edle ?c_edle ?k_edle ?a_edlt ?i_edlt ?l_edlt ?c_edlt ?k_edlt ?a_joined ?l_joined ?c_joined ?k_joined ?a_due ?l_due ?c_due ?k_due ?a_ordered ?l_ordered ?c_ordered ?k_ordered ?a_isoth ?l_isoth ?c_isoth ?k_isoth ?a_refused ?l_refused ?c_refused ?k_refused ?lz_refused ?vz_refused ?hz_refused ?nz_refused ?tz_refused ?a_law ?l_law ?c_law ?k_law ?g_LETTERS ?g_LONGEST_WORD ?z_len ?z_int ?z_range ?z_enumerate ?z_isinstance ?z_list ?z_tuple ?z_str ?z_bool ?z_all ?z_max ?z_zip
    (case a_Work => k_is)
    (case pg_Work => k_is)
    (case hd_Work => k_is)
    (case po_Work => k_is)
    (case sa_Work => k_is)
    (case mk_Work => k_is)
    (case kc_Work => k_is)
    (case n_Work_name => k_is)
    (case n_Work_words => k_is)
    (case n_Work_ends => k_is)
    (case aOW_Work => k_is)
    (case xOW_Work => k_exc)
    (case kOW_Work => k_is)
    (case bOW_Work => k_is)
    (case tOW_Work => k_is)
    (case iOW_Work => k_is)
    (case sOW_Work => k_is)
    (case ha_Work => k_is)
    (case hn_Work => k_is)
    (case htk_Work => k_is)
    (case hm_Work => k_is)
    (case ne_Work => k_is)
    (case ob_Work => k_is)
    (case ty_Work => k_is)
    (case self_Work => k_is)
    (case zany_Work => k_is)
    (case a_Edition => k_is)
    (case pg_Edition => k_is)
    (case hd_Edition => k_is)
    (case po_Edition => k_is)
    (case sa_Edition => k_is)
    (case mk_Edition => k_is)
    (case kc_Edition => k_is)
    (case n_Edition_work => k_is)
    (case n_Edition_words => k_is)
    (case n_Edition_cuts => k_is)
    (case n_Edition_counts => k_is)
    (case sf_Edition => k_is)
    (case ha_Edition => k_is)
    (case hm_Edition => k_is)
    (case ne_Edition => k_is)
    (case ob_Edition => k_is)
    (case ty_Edition => k_is)
    (case ed_Edition => k_is)
    (case wk_Edition => k_is)
    (case tNoneType_Edition => k_is)
    (case tint_Edition => k_is)
    (case tlist_Edition => k_is)
    (case ttuple_Edition => k_is)
    (case uNoneType_Edition => k_is)
    (case uint_Edition => k_is)
    (case ulist_Edition => k_is)
    (case utuple_Edition => k_is)
    (case a_fresh => k_is)
    (case l_fresh => k_is)
    (case c_fresh => k_is)
    (case k_fresh => k_is)
    (case a_fill => k_is)
    (case l_fill => k_is)
    (case c_fill => k_is)
    (case k_fill => k_is)
    (case a_take => k_is)
    (case l_take => k_is)
    (case c_take => k_is)
    (case k_take => k_is)
    (case a_one => k_is)
    (case l_one => k_is)
    (case c_one => k_is)
    (case k_one => k_is)
    (case a_same => k_is)
    (case l_same => k_is)
    (case c_same => k_is)
    (case k_same => k_is)
    (case a_allw => k_is)
    (case l_allw => k_is)
    (case c_allw => k_is)
    (case k_allw => k_is)
    (case a_somew => k_is)
    (case l_somew => k_is)
    (case c_somew => k_is)
    (case k_somew => k_is)
    (case a_many => k_is)
    (case l_many => k_is)
    (case c_many => k_is)
    (case k_many => k_is)
    (case a_kept => k_is)
    (case l_kept => k_is)
    (case c_kept => k_is)
    (case k_kept => k_is)
    (case a_isrow => k_is)
    (case l_isrow => k_is)
    (case c_isrow => k_is)
    (case k_isrow => k_is)
    (case a_isword => k_is)
    (case l_isword => k_is)
    (case c_isword => k_is)
    (case k_isword => k_is)
    (case a_wkinit => k_is)
    (case i_wkinit => k_is)
    (case l_wkinit => k_is)
    (case c_wkinit => k_is)
    (case k_wkinit => k_is)
    (case a_wklen => k_is)
    (case i_wklen => k_is)
    (case l_wklen => k_is)
    (case c_wklen => k_is)
    (case k_wklen => k_is)
    (case a_wkin => k_is)
    (case i_wkin => k_is)
    (case l_wkin => k_is)
    (case c_wkin => k_is)
    (case k_wkin => k_is)
    (case a_wkend => k_is)
    (case i_wkend => k_is)
    (case l_wkend => k_is)
    (case c_wkend => k_is)
    (case k_wkend => k_is)
    (case a_wkeq => k_is)
    (case i_wkeq => k_is)
    (case l_wkeq => k_is)
    (case c_wkeq => k_is)
    (case k_wkeq => k_is)
    (case a_wkps => k_is)
    (case i_wkps => k_is)
    (case l_wkps => k_is)
    (case c_wkps => k_is)
    (case k_wkps => k_is)
    (case a_cuts => k_is)
    (case l_cuts => k_is)
    (case c_cuts => k_is)
    (case k_cuts => k_is)
    (case a_counts => k_is)
    (case l_counts => k_is)
    (case c_counts => k_is)
    (case k_counts => k_is)
    (case a_edinit => k_is)
    (case i_edinit => k_is)
    (case l_edinit => k_is)
    (case c_edinit => k_is)
    (case k_edinit => k_is)
    (case a_edps => k_is)
    (case i_edps => k_is)
    (case l_edps => k_is)
    (case c_edps => k_is)
    (case k_edps => k_is)
    (case a_edeq => k_is)
    (case i_edeq => k_is)
    (case l_edeq => k_is)
    (case c_edeq => k_is)
    (case k_edeq => k_is)
    (case a_onew => k_is)
    (case l_onew => k_is)
    (case c_onew => k_is)
    (case k_onew => k_is)
    (case a_edand => k_is)
    (case i_edand => k_is)
    (case l_edand => k_is)
    (case c_edand => k_is)
    (case k_edand => k_is)
    (case a_edor => k_is)
    (case i_edor => k_is)
    (case l_edor => k_is)
    (case c_edor => k_is)
    (case k_edor => k_is)
    (case a_edsub => k_is)
    (case i_edsub => k_is)
    (case l_edsub => k_is)
    (case c_edsub => k_is)
    (case k_edsub => k_is)
    (case a_edle => k_is)
    (case i_edle => k_is)
    (case l_edle => k_is)
    (case c_edle => k_is)
    (case k_edle => k_is)
    (case a_edlt => k_is)
    (case i_edlt => k_is)
    (case l_edlt => k_is)
    (case c_edlt => k_is)
    (case k_edlt => k_is)
    (case a_joined => k_is)
    (case l_joined => k_is)
    (case c_joined => k_is)
    (case k_joined => k_is)
    (case a_due => k_is)
    (case l_due => k_is)
    (case c_due => k_is)
    (case k_due => k_is)
    (case a_ordered => k_is)
    (case l_ordered => k_is)
    (case c_ordered => k_is)
    (case k_ordered => k_is)
    (case a_isoth => k_is)
    (case l_isoth => k_is)
    (case c_isoth => k_is)
    (case k_isoth => k_is)
    (case a_refused => k_is)
    (case l_refused => k_is)
    (case c_refused => k_is)
    (case k_refused => k_is)
    (case lz_refused => k_is)
    (case vz_refused => rfl)
    (case hz_refused => kernel_rfl)
    (case nz_refused => first | k_is | kernel_rfl)
    (case tz_refused => exact PySem.W.km_tabs_of YY _ (by k_mem))
    (case a_law => k_is)
    (case l_law => k_is)
    (case c_law => k_is)
    (case k_law => k_is)
    (case g_LETTERS => k_is)
    (case g_LONGEST_WORD => k_is)
    (case z_len => k_is)
    (case z_int => k_is)
    (case z_range => k_is)
    (case z_enumerate => k_is)
    (case z_isinstance => k_is)
    (case z_list => k_is)
    (case z_tuple => k_is)
    (case z_str => k_is)
    (case z_bool => k_is)
    (case z_all => k_is)
    (case z_max => k_is)
    (case z_zip => k_is)
