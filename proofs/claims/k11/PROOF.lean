

import PyProof.Rows.All
import Wide.All
import OpenK.AllK
import Wide.FinOn
import HandS.ForMost
import HandS.Wide
import HandS.IsInst
import HandS.EndBits
import HandS.Walk
import HandS.Style
import HandS.Defaults
import HandS.ExcInit
import HandS.ExcField
import HandS.ExcIs
import KE.KExcIs
import HandS.ForExc
import HandS.SlotsOwn
import HandS.DictComp
import HandS.ListItems
import HandS.ClsMeth
import KE.KDictPairs
import HandS.Star
import KE.GoesEnum
import KE.GoesMore
import KE.DataCmp
import HandS.ExcOwn
import KE.KOpsOwn
import HandS.ExcValue
import PySem.Challenge.RW_whatpasses_k11_errors_made
import HandS.Lambda
set_option Elab.async false
set_option linter.all false
set_option maxRecDepth 100000
set_option maxHeartbeats 4000000

namespace Lw
open PySem PySem.Spec PyProof.Rows L2
/-! ### short steps: where the walk's name is only a name -/

/-! ### isinstance -/
theorem ty_non {K : PySem.W.Frag} {H : Hp} : TyX K H .non (.type "NoneType") := .base .non
theorem ty_bl {K : PySem.W.Frag} {H : Hp} {b : Bool} : TyX K H (.bl b) (.type "bool") := .base (.bl b)
theorem ty_int {K : PySem.W.Frag} {H : Hp} {i : Int} : TyX K H (.int i) (.type "int") := .base (.int i)
theorem ty_str {K : PySem.W.Frag} {H : Hp} {z : Str} : TyX K H (.str z) (.type "str") := .base (.str z)
theorem ty_lst {K : PySem.W.Frag} {H : Hp} {a : Addr} {xs : List V} (e : H a = some (.lst xs)) : TyX K H (.ref a) (.type "list") := .base (.lst e)
theorem ty_tup {K : PySem.W.Frag} {H : Hp} {a : Addr} {xs : List V} (e : H a = some (.tup xs)) : TyX K H (.ref a) (.type "tuple") := .base (.tup e)
theorem kit_of2 {K : PySem.W.Frag} {a c : String} (r : Bool) (h : kitB a c = some r) : PySem.W.kitOne K (.type a) (.type c) = some r := kit_ty h

theorem ty_sqL {K : PySem.W.Frag} {H : Hp} {a : Addr} {xs : List V} (h : SqL K H a xs) : TyX K H (.ref a) (.type "list") := by
  rcases h with (h | ⟨o, h⟩) | ⟨o, its, n, h, c, _⟩
  · exact .base (.lst h)
  · exact .base (.frz h)
  · exact .kList h c
theorem ty_sqT {K : PySem.W.Frag} {H : Hp} {a : Addr} {xs : List V} (h : SqT K H a xs) : TyX K H (.ref a) (.type "tuple") := by
  rcases h with (h | ⟨o, h⟩) | ⟨o, its, n, h, c, _⟩
  · exact .base (.tup h)
  · exact .fTuple h
  · exact .kTuple h c
theorem small5 {n : Nat} (h : n ≤ 100000) : n < sizeLine := Nat.lt_of_le_of_lt h (by decide)
def isUp (c : Nat) : Bool := decide (65 ≤ c ∧ c ≤ 90)
def isLow (c : Nat) : Bool := decide (97 ≤ c ∧ c ≤ 122)

/-! ### an own class's in, len, ==, != -/
section
variable {X : Cx} {CX : CXT} {n : Nat} {C g : Addr} {sp : Sp} {E : XK} {pins : List (Addr × Obj)} {σ : L2.St} {H : Hp} {s : Shared}
theorem ins_inst {a dx : Addr} {fs : List (Str × V)} (I : Inv X pins σ H s) (e : H a = some (.ins C dx fs)) : ∃ od, PySem.W.InstAt s.heap a (PySem.W.instObj C dx) C (some od) := by
  obtain ⟨mA, O, _⟩ := ins_get I.hok e
  obtain ⟨od, ho, _⟩ := lookIn_ns O.ns
  exact ⟨od, O.obj, rfl, rfl, ho⟩
/-- a value and its type, for the other side of == -/
def TyO (K : PySem.W.Frag) (H : Hp) (y : V) (tb : Value) : Prop := TyX K H y tb ∨ ∃ (b C2 dy : Addr) (fs : List (Str × V)), y = .ref b ∧ H b = some (.ins C2 dy fs) ∧ tb = .ref C2
def rInOwn (C : Addr) (sp : Sp) (E : XK) (neg : Bool) : R2 := fun x y H Q => ∃ a dx fs, y = .ref a ∧ H a = some (.ins C dx fs) ∧ sp [.ref a, x] H (fun v H' => ∃ b : Bool, v = .bl b ∧ Q (.bl (if neg then !b else b)) H') E
theorem op_inOwn (hs : PySem.W.findIn X.K (.ref C) "__contains__" = some (some (.ref g))) (hf : PySem.W.isFn X.K (.ref g) = true) (F : FnR X.prog X.w X.K X.mg X.base CX n g sp) (hr : Room n X.A) (hx : Passes CX X E) : OpR X (compareOp .In) (rInOwn C sp E false) := by
  intro pins s σ H x y v u Q I rx ry h
  obtain ⟨a, dx, fs, rfl, ha, q⟩ := h
  cases (show u = Value.ref a from ry)
  obtain ⟨od, J⟩ := ins_inst I ha
  obtain ⟨m, hF⟩ := I.fr
  refine PySem.W.in_K hF I.ok.mod.kin J hs hf (wpAny_mono (wpAny_call (run_fnR (us := [.ref a, v]) (vs := [.ref a, x]) F hr hx I (.cons rfl (.cons rx .nil)) q)) (fun z s' hz => ?_) fun _ _ e => e)
  obtain ⟨z1, H1, I1, rz, b, rfl, q1⟩ := hz
  cases (show z = Value.bool b from rz)
  exact wpAny_truthy_bool ⟨.bl b, H1, I1, rfl, q1⟩
theorem op_notInOwn (hs : PySem.W.findIn X.K (.ref C) "__contains__" = some (some (.ref g))) (hf : PySem.W.isFn X.K (.ref g) = true) (F : FnR X.prog X.w X.K X.mg X.base CX n g sp) (hr : Room n X.A) (hx : Passes CX X E) : OpR X (compareOp .NotIn) (rInOwn C sp E true) := by
  intro pins s σ H x y v u Q I rx ry h
  obtain ⟨a, dx, fs, rfl, ha, q⟩ := h
  cases (show u = Value.ref a from ry)
  obtain ⟨od, J⟩ := ins_inst I ha
  obtain ⟨m, hF⟩ := I.fr
  refine PySem.W.notIn_K hF I.ok.mod.kin J hs hf (wpAny_mono (wpAny_call (run_fnR (us := [.ref a, v]) (vs := [.ref a, x]) F hr hx I (.cons rfl (.cons rx .nil)) q)) (fun z s' hz => ?_) fun _ _ e => e)
  obtain ⟨z1, H1, I1, rz, b, rfl, q1⟩ := hz
  cases (show z = Value.bool b from rz)
  exact wpAny_truthy_bool ⟨.bl (!b), H1, I1, rfl, q1⟩
theorem call_lenOwn (hs : PySem.W.findIn X.K (.ref C) "__len__" = some (some (.ref g))) (hf : PySem.W.isFn X.K (.ref g) = true) (F : FnR X.prog X.w X.K X.mg X.base CX n g sp) (hr : Room (n + 1) X.A) (hx : Passes CX X E) :
    CallR X (.builtin "len") (fun xs H Q => ∃ a dx fs, xs = [.ref a] ∧ H a = some (.ins C dx fs) ∧ sp [.ref a] H (fun v H' => ∃ k : Nat, v = .int k ∧ k < 100000 ∧ Q (.int k) H') E) := by
  intro pins s σ H xs us Q I r h
  obtain ⟨a, dx, fs, rfl, ha, q⟩ := h
  obtain ⟨u, rfl, ru⟩ := r.one
  cases (show u = Value.ref a from ru)
  obtain ⟨od, J⟩ := ins_inst I ha
  obtain ⟨m, hF⟩ := I.fr
  refine PySem.W.len_K hF I.ok.mod.kin J hs hf (wpAny_mono (wpAny_call (SlX.run_at (us := [.ref a]) (ws := [.ref a]) F (Room.in1 hr) I.env0.in1 hx I (.cons rfl .nil) q)) (fun z s' hz => ?_) fun _ _ e => e)
  obtain ⟨z1, H1, I1, rz, k, rfl, hk, q1⟩ := hz
  obtain ⟨t, rfl⟩ := (show ∃ t, z = Value.int k t from rz)
  exact ⟨⟨Int.natCast_nonneg k, by omega⟩, .int k, H1, I1.tok _, ⟨_, rfl⟩, q1⟩
theorem looks_tyO {y : V} {u tb : Value} (I : Inv X pins σ H s) (ry : RelV y u) (ty : TyO X.K H y tb) : PySem.W.Looks (model X.prog X.w) s.heap (typeOf u) tb := by
  rcases ty with ty | ⟨b, C2, dy, fs, rfl, hb, rfl⟩
  · obtain ⟨P, Z, hP, _⟩ := kit_of I ry ty
    exact Z.ty _ _ I.kIn hP
  · cases (show u = Value.ref b from ry)
    obtain ⟨od, J⟩ := ins_inst I hb
    exact J.type
def rEqOwn (K : PySem.W.Frag) (C : Addr) (sp : Sp) (E : XK) : R2 := fun x y H Q => ∃ a dx fs tb, x = .ref a ∧ H a = some (.ins C dx fs) ∧ TyO K H y tb ∧ PySem.W.notFirst K C tb = true ∧ sp [x, y] H Q E
theorem op_eqOwn (hs : PySem.W.findIn X.K (.ref C) "__eq__" = some (some (.ref g))) (hf : PySem.W.isFn X.K (.ref g) = true) (F : FnR X.prog X.w X.K X.mg X.base CX n g sp) (hr : Room n X.A) (hx : Passes CX X E) : OpR X (compareOp .Eq) (rEqOwn X.K C sp E) := by
  intro pins s σ H x y v u Q I rx ry h
  obtain ⟨a, dx, fs, tb, rfl, ha, ty, hn, q⟩ := h
  cases (show v = Value.ref a from rx)
  obtain ⟨od, J⟩ := ins_inst I ha
  obtain ⟨m, hF⟩ := I.fr
  refine PySem.W.cmp_K (op := .Eq) (tb := tb) hr.units0 hF I.ok.mod.kin J (looks_tyO I ry ty) hn hs hf ?_
  refine wpAny_mono (wpAny_call (run_fnR (us := [.ref a, u]) (vs := [.ref a, y]) F hr hx I (.cons rfl (.cons ry .nil)) q)) (fun z s' hz => ?_) fun _ _ e => e
  obtain ⟨z1, H1, I1, rz, q1⟩ := hz
  exact SlX.cmpback rz ⟨z1, H1, I1, rz, q1⟩
theorem ifBound_ne {M : Model} {K : PySem.W.Frag} {ox : Obj} {od : Option Obj} {a : Addr} {args : List Value} {Ex : Value → Shared → Prop} {A : Around} {Qx : Option Value → Shared → Prop} (kin : K.In s.heap) (J : PySem.W.InstAt s.heap a ox C od)
    (hn : PySem.W.findIn K (.ref C) "__ne__" = some (some (.builtin "object.__ne__"))) (h : wpAny M A (call (.builtin "object.__ne__") (.ref a :: args)) (fun v => Qx (some v)) Ex s) : wpAny M A (callSpecialIfBound? (.ref a) "__ne__" args) Qx Ex s := by
  have hb : ∀ self : Value, bindSpecial (.builtin "object.__ne__") self = pure (.builtin "object.__ne__", [self]) := fun self => PySem.F.cmp_object.ne.bind self
  simp only [callSpecialIfBound?, bindSpecialIfBound?]
  refine wpAny_holding (wpAny_bind (wpAny_bind (wpAny_bind (J.type.here ((PySem.W.looks_findIn kin hn).here ?_)))))
  refine wpAny_bind (wpAny_askSetting (wpAny_ite ?_))
  have fin : wpAny M A (call (.builtin "object.__ne__") ([.ref a] ++ args) >>= fun v => pure (some v)) Qx Ex s := wpAny_bind (wpAny_mono h (fun v s1 h1 => wpAny_pure h1) fun _ _ h1 => h1)
  split
  · rw [hb]
    exact wpAny_bind (wpAny_pure (wpAny_pure (by exact fin)))
  · rw [hb]
    exact wpAny_tryCatch (wpAny_bind (wpAny_pure (wpAny_pure (by exact fin))))
theorem ne_entry {P : Program} {w : World} {K : PySem.W.Frag} {ox : Obj} {od : Option Obj} {a : Addr} {u : Value} {Ex : Value → Shared → Prop} {A : Around} {Qx : Fin → Shared → Prop} (hu : A.units < cLine) (kin : K.In s.heap) (J : PySem.W.InstAt s.heap a ox C od)
    (hs : PySem.W.findIn K (.ref C) "__eq__" = some (some (.ref g))) (hf : PySem.W.isFn K (.ref g) = true)
    (h : wpAny (model P w) A (call (.ref g) [.ref a, u]) (fun v s1 => ∃ b, v = .bool b ∧ Qx (.done (.ret (.bool (!b)))) s1) Ex s) : wpAny (model P w) A (Builtin.«object.__ne__» ⟨[.ref a, u], []⟩) Qx Ex s := by
  unfold Builtin.«object.__ne__»
  repeat (first
    | with_reducible refine wpAny_cRoomFor hu ?_
    | (refine wpAny_bind (m := callSpecialIfBound? (.ref a) (Str.ofString "__eq__") [u]) (PySem.W.ifBound_K kin J hs hf (wpAny_mono h (fun r s1 hr => by
          obtain ⟨b, rfl, hq⟩ := hr
          repeat (first | exact hq | exact wpAny_pure hq | exact wpAny_truthy_bool hq | (refine wpAny_bind (m := truthy (.bool _)) (wpAny_truthy_bool ?_)) | wp_step)) fun _ _ e => e)))
    | wp_step)
def rNeOwn (K : PySem.W.Frag) (C : Addr) (sp : Sp) (E : XK) : R2 := fun x y H Q => ∃ a dx fs tb, x = .ref a ∧ H a = some (.ins C dx fs) ∧ TyO K H y tb ∧ PySem.W.notFirst K C tb = true ∧ sp [x, y] H (fun v H' => ∃ b : Bool, v = .bl b ∧ Q (.bl (!b)) H') E
theorem op_neOwn (hs : PySem.W.findIn X.K (.ref C) "__eq__" = some (some (.ref g))) (hf : PySem.W.isFn X.K (.ref g) = true) (hn : PySem.W.findIn X.K (.ref C) "__ne__" = some (some (.builtin "object.__ne__"))) (top : PySem.W.mroIn X.K C (.type "object") = some true)
    (F : FnR X.prog X.w X.K X.mg X.base CX n g sp) (hr : Room (n + 1) X.A) (hx : Passes CX X E) : OpR X (compareOp .NotEq) (rNeOwn X.K C sp E) := by
  intro pins s σ H x y v u Q I rx ry h
  obtain ⟨a, dx, fs, tb, rfl, ha, ty, hnf, q⟩ := h
  cases (show v = Value.ref a from rx)
  obtain ⟨od, J⟩ := ins_inst I ha
  have kin := I.kIn
  have hr1 : Room n X.A.in1 := Room.in1 hr
  have sub : PySem.W.Looks (model X.prog X.w) s.heap (isInstance (.ref a) (.type "object")) true := J.type.andThen (PySem.W.looks_mroIn kin top)
  have one : wpAny (model X.prog X.w) X.A (tryCompare (.ref a) "__ne__" u) (fun r s1 => ∃ z, r = some z ∧ EP X pins σ Q z s1) X.xe s := by
    unfold tryCompare
    refine wpAny_bind (ifBound_ne kin J hn (wpAny_call (codeAny_call_builtin PySem.F.cmp_object.ne.plain PySem.F.cmpEntry_ne (PySem.W.check_slot PySem.F.cmpKind_ne PySem.F.cmpSplit_ne sub (PySem.F.cmpArgs_ne _ _) ?_))))
    refine ne_entry (A := X.A.in1) hr1.units0 kin J hs hf (wpAny_mono (wpAny_call (SlX.run_at (us := [.ref a, u]) (ws := [.ref a, y]) F hr1 I.env0.in1 hx I (.cons rfl (.cons ry .nil)) q)) (fun z s1 hz => ?_) fun _ _ e => e)
    obtain ⟨z1, H1, I1, rz, b, rfl, q1⟩ := hz
    cases (show z = Value.bool b from rz)
    first
      | exact ⟨b, rfl, wpAny_pure ⟨_, rfl, .bl (!b), H1, I1, rfl, q1⟩⟩
      | exact ⟨b, rfl, _, rfl, .bl (!b), H1, I1, rfl, q1⟩
      | exact ⟨b, rfl, wpAny_pure (wpAny_pure ⟨_, rfl, .bl (!b), H1, I1, rfl, q1⟩)⟩
  show wpAny _ _ (richCompare .NotEq (.ref a) u) _ _ _
  unfold richCompare
  simp only [oneThing_ref]
  refine wpAny_holding (wpAny_bind (wpAny_cRoomFor hr.units0 ?_))
  refine wpAny_bind (J.type.here (wpAny_bind ((looks_tyO I ry ty).here ?_)))
  split
  · rename_i qq
    have e : PySem.W.subIn X.K tb (.ref C) = some false := by
      rcases Bool.or_eq_true_iff.mp hnf with e | e
      · rw [beq_iff_eq.mp e] at qq; simp at qq
      · exact beq_iff_eq.mp e
    refine wpAny_bind ((PySem.W.looks_subIn kin e).here ?_)
    simp only [Bool.false_eq_true, if_false]
    refine wpAny_bind (wpAny_mono one (fun r s1 z => ?_) fun _ _ e => e)
    obtain ⟨z1, rfl, hq⟩ := z
    exact wpAny_pure hq
  · refine wpAny_bind (wpAny_pure ?_)
    simp only [Bool.false_eq_true, if_false]
    refine wpAny_bind (wpAny_mono one (fun r s1 z => ?_) fun _ _ e => e)
    obtain ⟨z1, rfl, hq⟩ := z
    exact wpAny_pure hq
end

/-! ### enumerate over a tuple -/
theorem meets_enum1 {v : Value} {o : Obj} {φ : Heap → Prop} (bg : Begins v o φ) :
    Meets (Builtin.«enumerate.__new__» ⟨[.type "enumerate", v], []⟩) (fun _ R s => φ s.heap ∧
      R (.ok (.ret (.ref (s.heap.push o).objs.size))) { s with heap := (s.heap.push o).push { cls := .type "enumerate", data := .fields #[.none, .bool false, .ref s.heap.objs.size, rawInt 0, .none, .none] } }) :=
  .of_wp fun pr wd ar rr sh hh => by
    obtain ⟨hq, gq, dq, tq, oq⟩ := sh; obtain ⟨k1, k2⟩ := hh
    have subE := sub_enumerate
    have it1 : ∀ {A' : Around} {Ex : Value → Shared → Prop} {Qx : Value → Shared → Prop}, Qx (.ref hq.objs.size) ⟨hq.push o, gq, dq, tq, oq⟩ → wpAny (model pr wd) A' (pyIter v) Qx Ex ⟨hq, gq, dq, tq, oq⟩ :=
      fun q => bg.iter pr wd _ _ ⟨hq, gq, dq, tq, oq⟩ _ k1 q
    wp_walk using it1
    refine wpAny_stack_any fun stk => wpAny_pure ?_
    split
    · rename_i cl _ _ _ _ _
      cases (cl == Value.type "enumerate") <;> (wp_walk using it1) <;> exact ⟨_, rfl, k2⟩
    · wp_walk using it1
      exact ⟨_, rfl, k2⟩
theorem call_enum1 {pr : Program} {wd : World} {A : Around} {Ex : Value → Shared → Prop} {s : Shared} {v : Value} {o : Obj} {φ : Heap → Prop} {Qx : Value → Shared → Prop} (bg : Begins v o φ) (k1 : φ s.heap)
    (k2 : ∀ h', IsEnum h' (s.heap.objs.size + 1) s.heap.objs.size 0 .none → h'.get? s.heap.objs.size = some o → (∀ b u, s.heap.get? b = some u → h'.get? b = some u) → Qx (.ref (s.heap.objs.size + 1)) { s with heap := h' }) :
    wpAny (model pr wd) A (call (.type "enumerate") [v]) Qx Ex s := by
  have hz : (s.heap.push o).objs.size = s.heap.objs.size + 1 := Heap.size_push ..
  have he : IsEnum ((s.heap.push o).push { cls := .type "enumerate", data := .fields #[.none, .bool false, .ref s.heap.objs.size, rawInt 0, .none, .none] }) (s.heap.objs.size + 1) s.heap.objs.size 0 .none := by
    have e := Heap.get?_push_size (s.heap.push o) (o := { cls := .type "enumerate", data := .fields #[.none, .bool false, .ref s.heap.objs.size, rawInt 0, .none, .none] }) rfl
    rw [hz] at e
    exact e
  refine callType_new F.called_enumerate (by decide) (F.typeCall_enumerate_1 _) (F.newCall_enumerate_1 _) (fun ob => F.args_object_init_2 ob _) F.entry_enumerate_new (meets_enum1 bg) ⟨k1, ?_⟩
  show _ ∧ _
  rw [hz]
  exact ⟨⟨_, he, rfl⟩, k2 _ he (Heap.get?_push_of_some _ (Heap.get?_push_size _ bg.free)) fun b u e => Heap.get?_push_of_some _ (Heap.get?_push_of_some _ e)⟩
/-- the tuple at a: each item in a new pair -/
def ItE (K : PySem.W.Frag) (a : Addr) : It where
  go := fun i H => ∃ (xs : List V) (x : V), SqT K H a xs ∧ xs[i]? = some x
  yld := fun i H v H' => ∃ T x, v = .ref T ∧ H T = none ∧ H' = upd H T (.tup [.int (i : Nat), x]) ∧ ∀ xs, SqT K H a xs → xs[i]? = some x
  stop := fun i H => ∃ xs : List V, SqT K H a xs ∧ xs.length = i
theorem turn_enumT {P : Program} {w : World} {K : PySem.W.Frag} {el : List Expr} {kk : Nat} {tp : Pos} (a e it : Addr) :
    Turn P w K (.Tuple el kk tp) (ItE K a) [e, it] e (fun i h => (∃ old, IsEnum h e it ((i : Nat) : Int) old) ∧ h.IsTupleIter it a i ∧ e ≠ it) := by
  refine { mem := List.mem_cons_self, obj := ?_, keep := ?_, item := ?_, done := ?_, self := ?_ }
  · rintro i h ⟨⟨old, he⟩, ⟨o, ho, hc, hd⟩, _⟩ b hb
    rcases List.mem_cons.mp hb with z | z
    · subst z
      exact ⟨_, he, fun v q => nomatch q⟩
    · have z := List.mem_singleton.mp z
      subst z
      exact ⟨o, ho, fun v q => by rw [hd] at q; cases q⟩
  · rintro i h h' ⟨⟨old, he⟩, hi, hne⟩ k
    exact ⟨⟨old, k e List.mem_cons_self _ he⟩, hi.at fun o q => k it (List.mem_cons_of_mem _ List.mem_cons_self) o q, hne⟩
  · rintro X rfl rfl rfl hc i pins s σ H E J hf ⟨⟨old, he⟩, hit, hne⟩ ⟨xs, x, hq, hx⟩
    obtain ⟨its, rv, p, hz⟩ := J.tuple hq
    obtain ⟨u, hu, ru⟩ := rv.get hx
    have pT : s.heap.IsTuple a its.toArray := p
    have hea : a ≠ e := fun z => by
      obtain ⟨o, ho, hcl, _⟩ := pT
      rw [z, he] at ho
      cases ho
      have hcl : Value.type "enumerate" = Value.type "tuple" := hcl
      injection hcl with hcl
      exact absurd hcl (by decide)
    have hia : a ≠ it := fun z => by
      obtain ⟨o, ho, hcl, _⟩ := pT
      obtain ⟨o2, ho2, hcl2, _⟩ := hit
      rw [z, ho2] at ho
      cases ho
      rw [hcl2] at hcl
      injection hcl with hcl
      exact absurd hcl (by decide)
    have hel : e < s.heap.objs.size := Heap.lt_size he
    have hil : it < s.heap.objs.size := by
      obtain ⟨_, q, _⟩ := hit
      exact Heap.lt_size q
    have hh : X.A.in1.handled = none := J.ok.hd hc
    have hlt : i < its.toArray.size := by
      rw [List.size_toArray]
      exact (List.getElem?_eq_some_iff.mp hu).1
    refine wpAny_pyNext_enum_itemD (Draws.tuple hh it a hia its.toArray) he ⟨hit, pT⟩ hlt hne (by simp [hne, Ne.symm hea]) fun y h1 tk hy ho hst hT hsz hk => ?_
    have ey : y = u := by
      have h2 : its[i]? = some y := by simpa using hy
      rw [hu] at h2
      exact (Option.some.inj h2).symm
    subst ey
    refine ⟨_, rfl, wpAny_letOwnedTupleGo_enum (s := { s with heap := h1, toks := tk + 1 }) ho fun h2 he2 sb => ?_⟩
    have hT2 : h2.get? s.heap.objs.size = some { cls := .type "tuple", data := .seq #[.int i tk, y] } := (sb.2 _ (Nat.ne_of_gt hel)).trans hT
    have nw : ObjOk X.prog X.w (upd H s.heap.objs.size (.tup [.int (i : Nat), x])) h2 s.heap.objs.size (.tup [.int (i : Nat), x]) :=
      ⟨by show 2 ≤ sizeLine; decide, [.int i tk, y], .cons ⟨_, rfl⟩ (.cons ru .nil), ⟨_, hT2, rfl, _, rfl⟩⟩
    have J1 : Inv X pins σ (upd H s.heap.objs.size (.tup [.int (i : Nat), x])) { s with heap := h2, toks := tk + 1 } :=
      J.turnedNew (ch := [e, it]) (fun b ob hb q => (sb.2 b (fun z => hb (z ▸ List.mem_cons_self))).trans (hk b ob (fun z => hb (z ▸ List.mem_cons_self)) (fun z => hb (z ▸ List.mem_cons_of_mem _ List.mem_cons_self)) q)) hf (Nat.le_refl _) nw
    refine ⟨.ref s.heap.objs.size, _, J1, rfl, ⟨_, x, rfl, J.hok.fresh (Nat.le_refl _), rfl, fun ys hy => ?_⟩, ⟨⟨y, ?_⟩, hst.1.at fun o q => (sb.2 it (Ne.symm hne)).trans q, hne⟩, fun b hb => ?_⟩
    · have : ys = xs := J.tuple_inj hy hq
      rw [this]
      exact hx
    · have e1 : ((i + 1 : Nat) : Int) = (i : Int) + 1 := by omega
      rw [e1]
      exact he2
    · have hb2 : b < s.heap.objs.size := by
        rcases List.mem_cons.mp hb with z | z
        · rw [z]; exact hel
        · rw [List.mem_singleton.mp z]; exact hil
      rw [upd_ne (Nat.ne_of_lt hb2)]
      exact (hf b hb).1
  · rintro X rfl rfl rfl hc i pins s σ H E J hf ⟨⟨old, he⟩, hit, hne⟩ ⟨xs, hq, hx⟩
    obtain ⟨its, rv, p, hz⟩ := J.tuple hq
    have pT : s.heap.IsTuple a its.toArray := p
    obtain ⟨f0, f1, f2, f3, f4, f5⟩ := hf it (List.mem_cons_of_mem _ List.mem_cons_self)
    have hia : a ≠ it := fun z => by
      obtain ⟨o, ho, hcl, _⟩ := pT
      obtain ⟨o2, ho2, hcl2, _⟩ := hit
      rw [z, ho2] at ho
      cases ho
      rw [hcl2] at hcl
      injection hcl with hcl
      exact absurd hcl (by decide)
    have hh : X.A.in1.handled = none := J.ok.hd hc
    have hl : its.toArray.size = i := by
      rw [List.size_toArray, ← rv.length]
      exact hx
    refine wpAny_pyNext_enum_endD (Draws.tuple hh it a hia its.toArray) he (by rw [hl]; exact ⟨hit, pT⟩) fun h1 eb => ⟨rfl, J.turned (t' := s.toks) (fun b o hb q => eb b o hb q) f0 f1 f3 f4 f5⟩
  · rintro A i s Q E ⟨⟨_, he⟩, _⟩ h
    exact wpAny_pyIter_enum he h
def iEnumT (K : PySem.W.Frag) (ta : TA) : TI := fun σ H R => ta σ H fun vs H1 => ∃ a xs, vs = [.ref a] ∧ SqT K H1 a xs ∧ R (ItE K a) H1
theorem pi_enumT {X : Cx} {e : Expr} {ta : TA} {p pos tp : Pos} {el : List Expr} {kk : Nat} (gE : Gl X "enumerate") (mE : X.mg "enumerate" = none) (ha : PA X [e] ta) (hs : starEach [e] X.env = [(false, eval e X.env)] := by rfl) :
    PI X (.Tuple el kk tp) (.Call (.Name "enumerate" p) [e] [] pos) (iEnumT X.K ta) := by
  refine ⟨fun pins s σ H R J h => ?_⟩
  refine Call_ (ld_blt J gE mE boot_enumerate (PyProof.Rows.callWith_type1 (thn (ha.run pos pins s σ H _ J h) fun us s1 hh => ?_) hs rfl))
  obtain ⟨vs, H1, J1, r1, a, xs, ex, hq, q⟩ := hh
  subst ex
  cases r1 with
  | cons r rr =>
    cases rr
    cases r
    obtain ⟨its, rv, p2, hz⟩ := J1.tuple hq
    refine call_enum1 (begins_tuple a its.toArray) (show s1.heap.IsTuple a its.toArray from p2) fun h1 he hit hk => wpAny_pyIter_enum he ?_
    have J2 : Inv X pins σ H1 { s1 with heap := h1 } := J1.kept (t' := s1.toks) hk
    refine ⟨s1.heap.objs.size + 1, [s1.heap.objs.size + 1, s1.heap.objs.size], _, _, H1, rfl, J2, turn_enumT a (s1.heap.objs.size + 1) s1.heap.objs.size, ⟨⟨.none, he⟩, ⟨_, hit, rfl, rfl⟩, Nat.succ_ne_self _⟩, fun b hb => ?_, q⟩
    have hle : s1.heap.objs.size ≤ b := by
      rcases List.mem_cons.mp hb with z | z
      · rw [z]; exact Nat.le_add_right _ _
      · rw [List.mem_singleton.mp z]; exact Nat.le_refl _
    exact J1.fpOk hle (J1.hok.fresh hle)
theorem walk_enumT {K : PySem.W.Frag} {a : Addr} {xs : List V} : Walk (ItE K a) xs.length (fun H => SqT K H a xs) (YPair (fun i => some (.int (i : Nat))) (fun i => xs[i]?)) := by
  refine ⟨fun i _ hi q => ⟨xs, xs[i], q, List.getElem?_eq_getElem hi⟩, fun _ q => ⟨xs, q, rfl⟩, fun i H v H' _ q y => ?_⟩
  obtain ⟨T, x, h1, h2, h3, h4⟩ := y
  exact ⟨T, .int (i : Nat), x, h1, h2, h3, rfl, h4 xs q⟩

/-! ### a static method without arguments; dict of a written tuple of pairs; enumerate over either -/
theorem pe_smeth0 {X : Cx} {CX : CXT} {k : Nat} {C p g : Addr} {mc : Value} {sp : Sp} {E : XK} {o : Expr} {m : Str} {pos apos : Pos} {ta : TE} {pl : Sem Bool} (he : PE X o ta) (ht0 : PySem.W.typeIn X.K (.ref C) = some mc) (r : ClX.CRead X.K C mc)
    (c : PySem.W.findCls X.K (.ref C) mc m = some (.get (.builtin "staticmethod.__get__") (.ref p) .none (.ref C))) (hp : ∃ rest, PySem.W.recIn X.K p "staticmethod" = some (.ref g :: rest)) (hk : PySem.W.keepIn X.K (.ref g) = true)
    (F : FnR X.prog X.w X.K X.mg X.base CX k g sp) (hr : Room k X.A) (hx : Passes CX X E)
    (ht : eval (.Call (.Attribute o m apos) [] [] pos) X.env = (do
      let ov ← eval o X.env
      standAt apos.atName
      let (f, first) ← holding [ov] (getMethod ov m pl)
      callWith pos f first (backTo pos (starEach [] X.env)) (backToKw pos (keywordEach [] X.env))) := by rfl) :
    PE X (.Call (.Attribute o m apos) [] [] pos) (fun σ H Q => ta σ H fun x H1 => x = .ref C ∧ sp [] H1 Q E) := by
  refine ⟨fun pins s σ H Q I h => ?_⟩
  refine PySem.W.methodCall_KW (pl := pl) (thn (he.run pins s σ H _ I h) fun u s1 hh => ?_) ht
  obtain ⟨x, H1, I1, rx, ex, q⟩ := hh
  subst ex
  obtain rfl : u = Value.ref C := rx
  obtain ⟨m1, hF⟩ := I1.fr
  obtain ⟨rest, hrec⟩ := hp
  refine PySem.W.method_of_cls hF I1.ok.mod.kin r.ga (PySem.W.cls_sm hF I1.ok.mod.kin ht0 r.rd c hrec rfl ?_)
  have I2 : Inv X pins σ H1 { s1 with toks := s1.toks + 1 } := I1.tok _
  exact PySem.W.callWith_K0 I2.kIn hk (wpAny_call (run_fnR (us := []) (vs := []) F hr hx I2 .nil q))
section
variable {X : Cx}
theorem pairs2 {pins : List (Addr × Obj)} {σ : L2.St} {H : Hp} {s : Shared} (I : Inv X pins σ H s) : ∀ {ps : List Addr} {kvs : List (Key × V)}, Paired (fun p kv => SqT X.K H p [kV kv.1, kv.2]) ps kvs →
    ∃ (prs : List (Key × Value)) (vps : List (Value × Value)), KV kvs prs ∧ prs.length = ps.length ∧ vps.length = ps.length ∧ ∀ (j : Nat) (k v : Value), vps[j]? = some (k, v) → ∃ (key : Key) (b : Addr), prs[j]? = some (key, v) ∧ (mixKind X.prog X.w).is key k = true ∧ ps[j]? = some b ∧ IsTup s.heap b #[k, v]
  | _, _, .nil => ⟨[], [], .nil, rfl, rfl, fun j k v e => by simp at e⟩
  | _, _, .cons (a := p) (b := kv) h t => by
    obtain ⟨prs, vps, r, hl, hl2, hp⟩ := pairs2 I t
    obtain ⟨its, rv, htp, _⟩ := I.tuple h
    obtain ⟨u, y, ei, ru, ry⟩ := vals2 rv
    subst ei
    refine ⟨(kv.1, y) :: prs, (u, y) :: vps, .cons ⟨rfl, ry⟩ r, by rw [List.length_cons, List.length_cons, hl], by rw [List.length_cons, List.length_cons, hl2], fun j k v e => ?_⟩
    cases j with
    | zero =>
      have e1 : (u, y) = (k, v) := Option.some.inj e
      have e2 : u = k := congrArg Prod.fst e1
      have e3 : y = v := congrArg Prod.snd e1
      subst e2 e3
      exact ⟨kv.1, p, rfl, kV_is (P := X.prog) (w := X.w) ru, rfl, htp⟩
    | succ j =>
      obtain ⟨key, b, e1, e2, e3, e4⟩ := hp j k v (by simpa using e)
      exact ⟨key, b, by simpa using e1, e2, by simpa using e3, e4⟩
/-- dict(T), T a written tuple of pairs -/
theorem call_dictT {a : Addr} {ps : List Addr} {o : Obj} {its : Array Value} {n : Nat} (calm : X.calm = true) (hk : X.K.lookup a = some o) (hc : o.cls = .type "tuple") (hd : o.dict = none) (hdat : o.data = .seq its n) (hits : its.toList = ps.map Value.ref) :
    CallR X (.type "dict") (fun xs H Q => ∃ kvs : List (Key × V), xs = [.ref a] ∧ Paired (fun p kv => SqT X.K H p [kV kv.1, kv.2]) ps kvs ∧ ps.length ≤ 1000 ∧ ∀ p, H p = none → Q (.ref p) (upd H p (.dK (mergeK [] kvs)))) := by
  intro pins s σ H xs us Q I r q
  obtain ⟨kvs, rfl, hp, hsz, q⟩ := q
  obtain ⟨u, eu, rx⟩ := vals1 r
  subst eu
  cases rx
  obtain ⟨prs, vps, rel, hl, hl2, hpr⟩ := pairs2 I hp
  have ho := I.kIn a o hk
  have size : its.size = vps.length := by rw [← Array.length_toList, hits, List.length_map, hl2]
  have line : ps.length ≤ sizeLine := Nat.le_trans hsz (by decide)
  refine PySem.call_dict_pairs (knd := mixKind X.prog X.w) (kvs := prs) (PySem.PairArg.tuple a its (fun j => ps.getD j 0) vps) (I.ok.hd calm) ⟨⟨o, n, ho, hc, hd, hdat⟩, size, fun j k v e => ?_⟩ ⟨by rw [hl, hl2], fun j k v e => ?_⟩ (by rw [hl2]; exact line) fun h1 tk hd1 kp => ?_
  · obtain ⟨key, b, e1, e2, e3, e4⟩ := hpr j k v e
    have eb : ps.getD j 0 = b := by rw [List.getD_eq_getElem?_getD, e3]; rfl
    refine ⟨?_, ?_⟩
    · show its[j]? = some (Value.ref (ps.getD j 0))
      rw [eb, ← Array.getElem?_toList, hits, List.getElem?_map, e3]
      rfl
    · show PySem.PairAt s.heap (ps.getD j 0) k v
      rw [eb]
      exact .inl e4
  · obtain ⟨key, b, e1, e2, _, _⟩ := hpr j k v e
    exact ⟨key, e1, e2⟩
  · have hm : (s.heap.objs.size == sysModules) = false := beq_eq_false_iff_ne.mpr (Nat.ne_of_gt I.big)
    have hlen : (mergeK [] kvs).length ≤ sizeLine := by
      refine Nat.le_trans (length_mergeK kvs []) ?_
      rw [List.length_nil, Nat.zero_add, rel.length, hl]
      exact line
    exact ⟨.ref s.heap.objs.size, upd H s.heap.objs.size (.dK (mergeK [] kvs)), I.laid (t' := tk) (fun b u e => kp b u (fun h => nomatch h) e) (Nat.le_refl _) (show ObjOk X.prog X.w _ _ _ (.dK (mergeK [] kvs)) from ⟨hlen, hm, merged [] prs, KV.merge rel .nil, hd1⟩), rfl, q _ (I.hok.fresh (Nat.le_refl _))⟩
end
/-- enumerate over a list or a tuple -/
def iEnum2 (K : PySem.W.Frag) (ta : TA) : TI := fun σ H R => ta σ H fun vs H1 => (∃ a xs, vs = [.ref a] ∧ SqL K H1 a xs ∧ R (Ite K a) H1) ∨ ∃ a xs, vs = [.ref a] ∧ SqT K H1 a xs ∧ R (ItE K a) H1
theorem pi_enum2 {X : Cx} {e : Expr} {ta : TA} {p pos tp : Pos} {el : List Expr} {kk : Nat} (gE : Gl X "enumerate") (mE : X.mg "enumerate" = none) (ha : PA X [e] ta) (hs : starEach [e] X.env = [(false, eval e X.env)] := by rfl) :
    PI X (.Tuple el kk tp) (.Call (.Name "enumerate" p) [e] [] pos) (iEnum2 X.K ta) := by
  refine ⟨fun pins s σ H R J h => ?_⟩
  refine Call_ (ld_blt J gE mE boot_enumerate (PyProof.Rows.callWith_type1 (thn (ha.run pos pins s σ H _ J h) fun us s1 hh => ?_) hs rfl))
  obtain ⟨vs, H1, J1, r1, hh⟩ := hh
  have fpk : ∀ (h1 : Heap), ∀ b ∈ [s1.heap.objs.size + 1, s1.heap.objs.size], FpOk X pins H1 b := fun _ b hb => by
    have hle : s1.heap.objs.size ≤ b := by
      rcases List.mem_cons.mp hb with z | z
      · rw [z]; exact Nat.le_add_right _ _
      · rw [List.mem_singleton.mp z]; exact Nat.le_refl _
    exact J1.fpOk hle (J1.hok.fresh hle)
  rcases hh with ⟨a, xs, ex, hq, q⟩ | ⟨a, xs, ex, hq, q⟩
  · subst ex
    cases r1 with
    | cons r rr =>
      cases rr
      cases r
      obtain ⟨its, rv, p2, hz⟩ := J1.list hq
      refine call_enum1 (begins_list a its.toArray) p2.isList fun h1 he hit hk => wpAny_pyIter_enum he ?_
      have J2 : Inv X pins σ H1 { s1 with heap := h1 } := J1.kept (t' := s1.toks) hk
      exact ⟨s1.heap.objs.size + 1, [s1.heap.objs.size + 1, s1.heap.objs.size], _, _, H1, rfl, J2, turn_enum a (s1.heap.objs.size + 1) s1.heap.objs.size, ⟨⟨.none, he⟩, ⟨_, hit, rfl, rfl⟩, Nat.succ_ne_self _⟩, fpk h1, q⟩
  · subst ex
    cases r1 with
    | cons r rr =>
      cases rr
      cases r
      obtain ⟨its, rv, p2, hz⟩ := J1.tuple hq
      refine call_enum1 (begins_tuple a its.toArray) (show s1.heap.IsTuple a its.toArray from p2) fun h1 he hit hk => wpAny_pyIter_enum he ?_
      have J2 : Inv X pins σ H1 { s1 with heap := h1 } := J1.kept (t' := s1.toks) hk
      exact ⟨s1.heap.objs.size + 1, [s1.heap.objs.size + 1, s1.heap.objs.size], _, _, H1, rfl, J2, turn_enumT a (s1.heap.objs.size + 1) s1.heap.objs.size, ⟨⟨.none, he⟩, ⟨_, hit, rfl, rfl⟩, Nat.succ_ne_self _⟩, fpk h1, q⟩

/-- an exception object at a: its class, its own dict -/
def ExK (cls : Value) (dd : Option Addr) (a : Addr) : HO := .ext fun g => ∃ (ob : Obj) (fl : Array Value), g.get? a = some ob ∧ Zc cls dd ob ∧ ob.data = .fields fl
/-! ### data of any kind, what they stand for in a heap -/
inductive U where
  | non | bl (b : Bool) | int (i : Int) | str (z : Str) | ty (n : String) | raw (a : Addr)
  | lst (xs : List U) | fls (xs : List U) | tup (xs : List U)
  | dic (ks : List Key) (xs : List U)
  | dct (ks : List (List Key)) (xs : List U)
  | obj (C : Addr) (ns : List Str) (xs : List U)
  | exo (C : Addr) (ns : List Str) (xs : List U)
mutual
inductive At (K : PySem.W.Frag) (G : Hp) : V → U → Prop
  | non : At K G .non .non
  | bl (b : Bool) : At K G (.bl b) (.bl b)
  | int (i : Int) : At K G (.int i) (.int i)
  | str (z : Str) : At K G (.str z) (.str z)
  | ty (n : String) : At K G (.ty n) (.ty n)
  | raw (a : Addr) : At K G (.ref a) (.raw a)
  | lst {a : Addr} {xs : List V} {ds : List U} : G a = some (.lst xs) → AtAll K G xs ds → At K G (.ref a) (.lst ds)
  | fls {a : Addr} {xs : List V} {ds : List U} : SqL K G a xs → AtAll K G xs ds → At K G (.ref a) (.fls ds)
  | tup {a : Addr} {xs : List V} {ds : List U} : SqT K G a xs → AtAll K G xs ds → At K G (.ref a) (.tup ds)
  | dic {a : Addr} {kvs : List (Key × V)} {ds : List U} : G a = some (.dK kvs) → AtAll K G (kvs.map (·.2)) ds → At K G (.ref a) (.dic (kvs.map (·.1)) ds)
  | dct {a : Addr} {kvs : List (List Key × V)} {ds : List U} : G a = some (.dT kvs) → AtAll K G (kvs.map (·.2)) ds → At K G (.ref a) (.dct (kvs.map (·.1)) ds)
  | obj {a C dx : Addr} {fs : List (Str × V)} {ds : List U} : G a = some (.ins C dx fs) → AtAll K G (fs.map (·.2)) ds → At K G (.ref a) (.obj C (fs.map (·.1)) ds)
  | exo {a C e : Addr} {fs : List (Str × V)} {ds : List U} : G a = some (ExK (.ref C) (some e) a) → G e = some (.xd fs) → AtAll K G (fs.map (·.2)) ds → At K G (.ref a) (.exo C (fs.map (·.1)) ds)
  | exo0 {a C : Addr} : G a = some (ExK (.ref C) none a) → At K G (.ref a) (.exo C [] [])
inductive AtAll (K : PySem.W.Frag) (G : Hp) : List V → List U → Prop
  | nil : AtAll K G [] []
  | cons {v : V} {vs : List V} {d : U} {ds : List U} : At K G v d → AtAll K G vs ds → AtAll K G (v :: vs) (d :: ds)
end
theorem sql_same {K : PySem.W.Frag} {H H' : Hp} {a : Addr} {xs : List V} (s : Same H H') (h : SqL K H a xs) : SqL K H' a xs := s.seq h
theorem sqt_same {K : PySem.W.Frag} {H H' : Hp} {a : Addr} {xs : List V} (s : Same H H') (h : SqT K H a xs) : SqT K H' a xs := by
  rcases h with (h | ⟨o, h⟩) | h
  · exact .inl (.inl (s _ _ h))
  · exact .inl (.inr ⟨o, s _ _ h⟩)
  · exact .inr h
section
variable {K : PySem.W.Frag} {G G' : Hp}
mutual
theorem At.mono (s : Same G G') : ∀ (d : U) (v : V), At K G v d → At K G' v d
  | .non, _, h => by cases h; exact .non
  | .bl _, _, h => by cases h; exact .bl _
  | .int _, _, h => by cases h; exact .int _
  | .str _, _, h => by cases h; exact .str _
  | .ty _, _, h => by cases h; exact .ty _
  | .raw _, _, h => by cases h; exact .raw _
  | .lst ds, _, h => by
    cases h with
    | lst hs ha => exact .lst (s _ _ hs) (AtAll.mono s ds _ ha)
  | .fls ds, _, h => by
    cases h with
    | fls hs ha => exact .fls (sql_same s hs) (AtAll.mono s ds _ ha)
  | .tup ds, _, h => by
    cases h with
    | tup hs ha => exact .tup (sqt_same s hs) (AtAll.mono s ds _ ha)
  | .dic ks ds, _, h => by
    cases h with
    | dic hs ha => exact .dic (s _ _ hs) (AtAll.mono s ds _ ha)
  | .dct ks ds, _, h => by
    cases h with
    | dct hs ha => exact .dct (s _ _ hs) (AtAll.mono s ds _ ha)
  | .obj C ns ds, _, h => by
    cases h with
    | obj hs ha => exact .obj (s _ _ hs) (AtAll.mono s ds _ ha)
  | .exo C ns ds, _, h => by
    cases h with
    | exo hs he ha => exact .exo (s _ _ hs) (s _ _ he) (AtAll.mono s ds _ ha)
    | exo0 hs => exact .exo0 (s _ _ hs)
theorem AtAll.mono (s : Same G G') : ∀ (ds : List U) (vs : List V), AtAll K G vs ds → AtAll K G' vs ds
  | [], _, h => by cases h; exact .nil
  | d :: r, _, h => by
    cases h with
    | cons h1 h2 => exact .cons (At.mono s d _ h1) (AtAll.mono s r _ h2)
end
theorem AtAll.length : ∀ {vs : List V} {ds : List U}, AtAll K G vs ds → vs.length = ds.length
  | _, _, .nil => rfl
  | _, _, .cons _ b => by rw [List.length_cons, List.length_cons, AtAll.length b]
theorem AtAll.append : ∀ {vs ws : List V} {ds es : List U}, AtAll K G vs ds → AtAll K G ws es → AtAll K G (vs ++ ws) (ds ++ es)
  | _, _, _, _, .nil, h => h
  | _, _, _, _, .cons a b, h => .cons a (AtAll.append b h)
theorem AtAll.snoc {vs : List V} {ds : List U} {v : V} {d : U} (h : AtAll K G vs ds) (x : At K G v d) : AtAll K G (vs ++ [v]) (ds ++ [d]) := h.append (.cons x .nil)
theorem AtAll.get : ∀ {vs : List V} {ds : List U} {i : Nat} {v : V}, AtAll K G vs ds → vs[i]? = some v → ∃ d, ds[i]? = some d ∧ At K G v d
  | _, _, _, _, .nil, h => by simp at h
  | _, _, 0, _, .cons a _, h => by
    simp at h
    subst h
    exact ⟨_, rfl, a⟩
  | _, _, i + 1, _, .cons _ b, h => by
    obtain ⟨d, h1, h2⟩ := AtAll.get (i := i) b (by simpa using h)
    exact ⟨d, by simpa using h1, h2⟩
theorem AtAll.get2 : ∀ {vs : List V} {ds : List U} {i : Nat} {d : U}, AtAll K G vs ds → ds[i]? = some d → ∃ v, vs[i]? = some v ∧ At K G v d
  | _, _, _, _, .nil, h => by simp at h
  | _, _, 0, _, .cons a _, h => by
    simp at h
    subst h
    exact ⟨_, rfl, a⟩
  | _, _, i + 1, _, .cons _ b, h => by
    obtain ⟨d, h1, h2⟩ := AtAll.get2 (i := i) b (by simpa using h)
    exact ⟨d, by simpa using h1, h2⟩
theorem AtAll.set : ∀ {vs : List V} {ds : List U} (i : Nat) {v : V} {d : U}, AtAll K G vs ds → At K G v d → AtAll K G (vs.set i v) (ds.set i d)
  | _, _, _, _, _, .nil, _ => .nil
  | _, _, 0, _, _, .cons _ t, x => .cons x t
  | _, _, i + 1, _, _, .cons a t, x => .cons a (AtAll.set i t x)
theorem AtAll.take : ∀ {vs : List V} {ds : List U} (n : Nat), AtAll K G vs ds → AtAll K G (vs.take n) (ds.take n)
  | _, _, 0, _ => by rw [List.take_zero, List.take_zero]; exact .nil
  | _, _, _ + 1, .nil => .nil
  | _, _, n + 1, .cons a t => .cons a (AtAll.take n t)
theorem AtAll.drop : ∀ {vs : List V} {ds : List U} (n : Nat), AtAll K G vs ds → AtAll K G (vs.drop n) (ds.drop n)
  | _, _, 0, h => h
  | _, _, _ + 1, .nil => .nil
  | _, _, n + 1, .cons _ t => AtAll.drop n t
end

/-! ### slots, states -/
/-- what is known of a slot: nothing; a datum, never changed again; an own object of now this content; a borrowed one (the caller's) -/
inductive Sl where
  | un | val (d : U) | own (d : U) | bor (d : U)
def Sl.cell : Sl → Option U
  | .own d => some d
  | .bor d => some d
  | _ => none
abbrev Sls := List Sl
/-- G: what is frozen; ρ: what is known of the slots; σ: the slots; H: the heap -/
structure Sta where
  G : Hp
  ρ : Sls
  σ : L2.St
  H : Hp
/-- what an own object holds -/
inductive Cell (K : PySem.W.Frag) (G : Hp) : HO → U → Prop
  | lst {xs : List V} {ds : List U} : AtAll K G xs ds → Cell K G (.lst xs) (.lst ds)
  | dic {kvs : List (Key × V)} {ds : List U} : AtAll K G (kvs.map (·.2)) ds → Cell K G (.dK kvs) (.dic (kvs.map (·.1)) ds)
  | dct {kvs : List (List Key × V)} {ds : List U} : AtAll K G (kvs.map (·.2)) ds → Cell K G (.dT kvs) (.dct (kvs.map (·.1)) ds)
  | obj {C dx : Addr} {fs : List (Str × V)} {ds : List U} : AtAll K G (fs.map (·.2)) ds → Cell K G (.ins C dx fs) (.obj C (fs.map (·.1)) ds)
theorem Cell.mono {K : PySem.W.Frag} {G G' : Hp} {o : HO} {d : U} (s : Same G G') (h : Cell K G o d) : Cell K G' o d := by
  cases h with
  | lst h => exact .lst (AtAll.mono s _ _ h)
  | dic h => exact .dic (AtAll.mono s _ _ h)
  | dct h => exact .dct (AtAll.mono s _ _ h)
  | obj h => exact .obj (AtAll.mono s _ _ h)
theorem Cell.at {K : PySem.W.Frag} {G : Hp} {a : Addr} {o : HO} {d : U} (h : Cell K G o d) (e : G a = some o) : At K G (.ref a) d := by
  cases h with
  | lst h => exact .lst e h
  | dic h => exact .dic e h
  | dct h => exact .dct e h
  | obj h => exact .obj e h
/-- slot i holds the own object at a -/
def OwnAt (s : Sta) (i : Nat) (a : Addr) : Prop := (∃ (sl : Sl) (d : U), s.ρ[i]? = some sl ∧ sl.cell = some d) ∧ s.σ[i]? = some (some (.ref a))
def Owns (s : Sta) (a : Addr) : Prop := ∃ i, OwnAt s i a
structure Den (K : PySem.W.Frag) (s : Sta) : Prop where
  sub : Same s.G s.H
  len : s.σ.length = s.ρ.length
  val : ∀ (i : Nat) (d : U), s.ρ[i]? = some (.val d) → ∃ v, s.σ[i]? = some (some v) ∧ At K s.G v d
  own : ∀ (i : Nat) (sl : Sl) (d : U), s.ρ[i]? = some sl → sl.cell = some d → ∃ a o, s.σ[i]? = some (some (.ref a)) ∧ s.G a = none ∧ s.H a = some o ∧ Cell K s.G o d
  dis : ∀ (i j : Nat) (a : Addr), OwnAt s i a → OwnAt s j a → i = j
/-- how a later state stands to an earlier one -/
structure Stp (s s' : Sta) : Prop where
  sub : Same s.G s'.G
  fr : ∀ a o, s.H a = some o → ¬ Owns s a → s'.H a = some o
  dom : ∀ a, s'.H a = none → s.H a = none
  own : ∀ a, Owns s' a → Owns s a ∨ s.H a = none
  gfr : ∀ a, s.H a ≠ none → ¬ Owns s a → s.G a = none → s'.G a = none
  bor : ∀ (i : Nat) (d : U), s.ρ[i]? = some (.bor d) → ∃ d' : U, s'.ρ[i]? = some (.bor d') ∧ s'.σ[i]? = s.σ[i]?
theorem Stp.refl (s : Sta) : Stp s s := ⟨fun _ _ h => h, fun _ _ h _ => h, fun _ h => h, fun _ h => .inl h, fun _ _ _ h => h, fun _ d h => ⟨d, h, rfl⟩⟩
theorem Stp.trans {s s1 s2 : Sta} (x : Stp s s1) (y : Stp s1 s2) : Stp s s2 := by
  have no : ∀ a, s.H a ≠ none → ¬ Owns s a → ¬ Owns s1 a := fun a n h z => by
    rcases x.own a z with z | z
    · exact h z
    · exact n z
  refine ⟨x.sub.trans y.sub, fun a o e n => ?_, fun a h => x.dom a (y.dom a h), fun a h => ?_, fun a n1 n2 h => ?_, fun i d h => ?_⟩
  · exact y.fr a o (x.fr a o e n) (no a (by rw [e]; exact fun z => nomatch z) n)
  · rcases y.own a h with h | h
    · exact x.own a h
    · exact .inr (x.dom a h)
  · exact y.gfr a (fun z => n1 (x.dom a z)) (no a n1 n2) (x.gfr a n1 n2 h)
  · obtain ⟨d1, h1, e1⟩ := x.bor i d h
    obtain ⟨d2, h2, e2⟩ := y.bor i d1 h1
    exact ⟨d2, h2, e2.trans e1⟩
/-- what an expression gives: a datum; the own object of a slot; a new own object -/
inductive Av where
  | dt (d : U) | sl (i : Nat) | own (d : U)
def AvOk (K : PySem.W.Frag) (s s' : Sta) (v : V) : Av → Prop
  | .dt d => At K s'.G v d
  | .sl i => s'.σ[i]? = some (some v)
  | .own d => ∃ a o, v = .ref a ∧ s'.H a = some o ∧ s'.G a = none ∧ Cell K s'.G o d ∧ ¬ Owns s' a ∧ (s.H a = none ∨ Owns s a)
/-- within an expression -/
structure Nxt (K : PySem.W.Frag) (s s' : Sta) : Prop where
  stp : Stp s s'
  den : Den K s'
  slots : s'.σ = s.σ
theorem Nxt.refl {K : PySem.W.Frag} {s : Sta} (h : Den K s) : Nxt K s s := ⟨Stp.refl s, h, rfl⟩
theorem Nxt.trans {K : PySem.W.Frag} {s s1 s2 : Sta} (x : Nxt K s s1) (y : Nxt K s1 s2) : Nxt K s s2 := ⟨x.stp.trans y.stp, y.den, y.slots.trans x.slots⟩
theorem AvOk.base {K : PySem.W.Frag} {s s1 s2 : Sta} {v : V} {av : Av} (x : Stp s s1) (h : AvOk K s1 s2 v av) : AvOk K s s2 v av := by
  cases av with
  | dt d => exact h
  | sl i => exact h
  | own d =>
    obtain ⟨a, o, h1, h2, h3, h4, h5, h6⟩ := h
    refine ⟨a, o, h1, h2, h3, h4, h5, ?_⟩
    rcases h6 with h | h
    · exact .inl (x.dom a h)
    · rcases x.own a h with h | h
      · exact .inr h
      · exact .inl h
/-- a datum or a slot stays what it is -/
def Av.flat : Av → Prop
  | .own _ => False
  | _ => True
theorem AvOk.next {K : PySem.W.Frag} {s s1 s2 : Sta} {v : V} {av : Av} (f : av.flat) (y : Nxt K s1 s2) (h : AvOk K s s1 v av) : AvOk K s s2 v av := by
  cases av with
  | dt d => exact At.mono y.stp.sub _ _ h
  | sl i =>
    show s2.σ[i]? = _
    rw [y.slots]
    exact h
  | own d => exact f.elim
/-- errors by their data: an own class with fields -/
structure Er where
  C : Addr
  ns : List Str
  xs : List U
def ErOk (K : PySem.W.Frag) (s' : Sta) (cls : Value) (dd : Option Addr) (e : Er) : Prop :=
  cls = .ref e.C ∧ ∃ d fs, dd = some d ∧ s'.H d = some (.xd fs) ∧ fs.map (·.1) = e.ns ∧ AtAll K s'.G (fs.map (·.2)) e.xs
/-- what is wanted of a raise, at the slots and the heap -/
abbrev Wx := Value → Option Addr → L2.St → Hp → Prop
/-- .. in a state's words -/
def XOk (K : PySem.W.Frag) (s : Sta) (W : Wx) (X : Er → Sls → Prop) : Prop :=
  ∀ cls dd e s', Stp s s' → Den K s' → ErOk K s' cls dd e → X e s'.ρ → W cls dd s'.σ s'.H
theorem XOk.next {K : PySem.W.Frag} {s s1 : Sta} {W : Wx} {X : Er → Sls → Prop} (h : XOk K s W X) (n : Stp s s1) : XOk K s1 W X := fun cls dd e s' n2 d ok x => h cls dd e s' (n.trans n2) d ok x

/-! ### readings of expressions by data -/
def Av.fl : Av → Av
  | .own d => .dt d
  | a => a
theorem fl_flat : ∀ a : Av, a.fl.flat
  | .dt _ => trivial
  | .sl _ => trivial
  | .own _ => trivial
def View (ρ : Sls) : Av → U → Prop
  | .dt d', d => d' = d
  | .sl i, d => ∃ sl, ρ[i]? = some sl ∧ (sl = .val d ∨ sl.cell = some d)
  | .own _, _ => False
section
variable {K : PySem.W.Frag} {W : Wx}
/-- what stands behind a value -/
abbrev Cnt (K : PySem.W.Frag) (s : Sta) (Q : Av → Sls → Prop) (Q0 : VK) : Prop := ∀ v av s', Nxt K s s' → AvOk K s s' v av → Q av s'.ρ → Q0 v s'.H
def WE (K : PySem.W.Frag) (W : Wx) (t : TE) (ρ : Sls) (Q : Av → Sls → Prop) (X : Er → Sls → Prop) : Prop :=
  ∀ (s : Sta) (Q0 : VK), s.ρ = ρ → Den K s → XOk K s W X → Cnt K s Q Q0 → t s.σ s.H Q0
def WT (K : PySem.W.Frag) (W : Wx) (t : TT) (ρ : Sls) (Q : Bool → Sls → Prop) (X : Er → Sls → Prop) : Prop :=
  ∀ (s : Sta) (Q0 : Bool → Hp → Prop), s.ρ = ρ → Den K s → XOk K s W X → (∀ b s', Nxt K s s' → Q b s'.ρ → Q0 b s'.H) → t s.σ s.H Q0
inductive AvsOk (K : PySem.W.Frag) (s : Sta) : List V → List Av → Prop
  | nil : AvsOk K s [] []
  | cons {v : V} {vs : List V} {a : Av} {as : List Av} : a.flat → AvOk K s s v a → AvsOk K s vs as → AvsOk K s (v :: vs) (a :: as)
def WA (K : PySem.W.Frag) (W : Wx) (t : TA) (ρ : Sls) (Q : List Av → Sls → Prop) (X : Er → Sls → Prop) : Prop :=
  ∀ (s : Sta) (Q0 : List V → Hp → Prop), s.ρ = ρ → Den K s → XOk K s W X → (∀ vs avs s', Nxt K s s' → AvsOk K s' vs avs → Q avs s'.ρ → Q0 vs s'.H) → t s.σ s.H Q0
theorem Cnt.lift {s s1 : Sta} {Q : Av → Sls → Prop} {Q0 : VK} (k : Cnt K s Q Q0) (n : Nxt K s s1) : Cnt K s1 Q Q0 := fun v av s' n2 ok q => k v av s' (n.trans n2) (ok.base n.stp) q
theorem AvOk.self {s s1 : Sta} {v : V} {av : Av} (f : av.flat) (h : AvOk K s s1 v av) : AvOk K s1 s1 v av := by
  cases av with
  | dt d => exact h
  | sl i => exact h
  | own d => exact f.elim
theorem AvsOk.next {s1 s2 : Sta} (n : Nxt K s1 s2) : ∀ {vs : List V} {as : List Av}, AvsOk K s1 vs as → AvsOk K s2 vs as
  | _, _, .nil => .nil
  | _, _, .cons f h t => .cons f ((AvOk.next f n h).self f) (AvsOk.next n t)
theorem Owns.with_G {s : Sta} {G : Hp} {a : Addr} (h : Owns { s with G := G } a) : Owns s a := h
/-- a new own object is frozen -/
theorem freeze {s s1 : Sta} {v : V} {d : U} (n : Nxt K s s1) (h : AvOk K s s1 v (.own d)) : ∃ s2, s2.ρ = s1.ρ ∧ s2.H = s1.H ∧ Nxt K s s2 ∧ AvOk K s s2 v (.dt d) := by
  obtain ⟨a, o, rfl, h2, h3, h4, h5, h6⟩ := h
  have sub : Same s1.G (upd s1.G a o) := fun b u e => by
    rw [upd_ne (ne_of_none e h3)]
    exact e
  have nown : ∀ i b, OwnAt s1 i b → b ≠ a := fun i b z e => h5 ⟨i, e ▸ z⟩
  refine ⟨{ s1 with G := upd s1.G a o }, rfl, rfl, ⟨⟨n.stp.sub.trans sub, n.stp.fr, n.stp.dom, n.stp.own, fun b n1 n2 e => ?_, n.stp.bor⟩, ⟨fun b u e => ?_, n.den.len, fun i x e => ?_, fun i sl x e1 e2 => ?_, n.den.dis⟩, n.slots⟩, ?_⟩
  · have ne : b ≠ a := by
      rintro rfl
      rcases h6 with h | h
      · exact n1 h
      · exact n2 h
    show upd s1.G a o b = none
    rw [upd_ne ne]
    exact n.stp.gfr b n1 n2 e
  · have e : upd s1.G a o b = some u := e
    by_cases q : b = a
    · subst q
      rw [upd_same] at e
      cases e
      exact h2
    · rw [upd_ne q] at e
      exact n.den.sub b u e
  · obtain ⟨v, e1, e2⟩ := n.den.val i x e
    exact ⟨v, e1, At.mono sub _ _ e2⟩
  · obtain ⟨b, u, e3, e4, e5, e6⟩ := n.den.own i sl x e1 e2
    refine ⟨b, u, e3, ?_, e5, e6.mono sub⟩
    show upd s1.G a o b = none
    rw [upd_ne (nown i b ⟨⟨sl, x, e1, e2⟩, e3⟩)]
    exact e4
  · exact (h4.mono sub).at upd_same
/-- an operand: what is new is frozen at once -/
theorem WE.flat {t : TE} {ρ : Sls} {Q : Av → Sls → Prop} {X : Er → Sls → Prop} (h : WE K W t ρ (fun av ρ' => Q av.fl ρ') X) {s : Sta} {Q0 : VK} (e : s.ρ = ρ) (d : Den K s) (x : XOk K s W X)
    (k : ∀ v av s', Nxt K s s' → av.flat → AvOk K s' s' v av → Q av s'.ρ → Q0 v s'.H) : t s.σ s.H Q0 := by
  refine h s Q0 e d x fun v av s1 n ok q => ?_
  cases av with
  | dt d => exact k v (.dt d) s1 n trivial ok q
  | sl i => exact k v (.sl i) s1 n trivial ok q
  | own d =>
    obtain ⟨s2, e1, e2, n2, ok2⟩ := freeze n ok
    rw [← e2]
    exact k v (.dt d) s2 n2 trivial ok2 (by rw [e1]; exact q)
theorem view_at {s : Sta} {v : V} {av : Av} {d : U} (D : Den K s) (ok : AvOk K s s v av) (w : View s.ρ av d) : At K s.H v d := by
  cases av with
  | dt d' =>
    obtain rfl : d' = d := w
    exact At.mono D.sub _ _ ok
  | sl i =>
    obtain ⟨sl, e, h⟩ := w
    have ok : s.σ[i]? = some (some v) := ok
    rcases h with rfl | h
    · obtain ⟨v', e1, e2⟩ := D.val i d e
      rw [ok] at e1
      cases e1
      exact At.mono D.sub _ _ e2
    · obtain ⟨a, o, e1, _, e3, e4⟩ := D.own i sl d e h
      rw [ok] at e1
      cases e1
      exact (e4.mono D.sub).at e3
  | own _ => exact w.elim
/-- the items of what is looked at: data for ever -/
theorem view_items {s : Sta} {v : V} {av : Av} {d : U} (D : Den K s) (ok : AvOk K s s v av) (w : View s.ρ av d) :
    At K s.G v d ∨ ∃ a o, v = .ref a ∧ s.H a = some o ∧ Cell K s.G o d := by
  cases av with
  | dt d' =>
    obtain rfl : d' = d := w
    exact .inl ok
  | sl i =>
    obtain ⟨sl, e, h⟩ := w
    have ok : s.σ[i]? = some (some v) := ok
    rcases h with rfl | h
    · obtain ⟨v', e1, e2⟩ := D.val i d e
      rw [ok] at e1
      cases e1
      exact .inl e2
    · obtain ⟨a, o, e1, _, e3, e4⟩ := D.own i sl d e h
      rw [ok] at e1
      cases e1
      exact .inr ⟨a, o, rfl, e3, e4⟩
  | own _ => exact w.elim
theorem view_list {s : Sta} {v : V} {av : Av} {ds : List U} (D : Den K s) (ok : AvOk K s s v av) (w : View s.ρ av (.lst ds)) : ∃ a xs, v = .ref a ∧ s.H a = some (.lst xs) ∧ AtAll K s.G xs ds := by
  rcases view_items D ok w with h | ⟨a, o, rfl, h1, h2⟩
  · cases h with
    | lst hs ha => exact ⟨_, _, rfl, D.sub _ _ hs, ha⟩
  · cases h2 with
    | lst h2 => exact ⟨a, _, rfl, h1, h2⟩
theorem view_tup {s : Sta} {v : V} {av : Av} {ds : List U} (D : Den K s) (ok : AvOk K s s v av) (w : View s.ρ av (.tup ds)) : ∃ a xs, v = .ref a ∧ SqT K s.H a xs ∧ AtAll K s.G xs ds := by
  rcases view_items D ok w with h | ⟨a, o, rfl, h1, h2⟩
  · cases h with
    | tup hs ha => exact ⟨_, _, rfl, sqt_same D.sub hs, ha⟩
  · cases h2
/-- plain data come as they are -/
theorem at_int {s : Sta} {v : V} {i : Int} (h : AvOk K s s v (.dt (.int i))) : v = .int i := by
  have h : At K s.G v (.int i) := h
  cases h
  rfl
theorem at_str {s : Sta} {v : V} {z : Str} (h : AvOk K s s v (.dt (.str z))) : v = .str z := by
  have h : At K s.G v (.str z) := h
  cases h
  rfl
theorem at_bl {s : Sta} {v : V} {b : Bool} (h : AvOk K s s v (.dt (.bl b))) : v = .bl b := by
  have h : At K s.G v (.bl b) := h
  cases h
  rfl
theorem at_non {s : Sta} {v : V} (h : AvOk K s s v (.dt .non)) : v = .non := by
  have h : At K s.G v .non := h
  cases h
  rfl
/-! ### names, constants -/
variable {X : Er → Sls → Prop} {ρ : Sls}
theorem we_val {i : Nat} {d : U} {Q : Av → Sls → Prop} (e : ρ[i]? = some (.val d)) (q : Q (.dt d) ρ) : WE K W (tVar i) ρ Q X := by
  rintro s Q0 rfl D _ k
  obtain ⟨v, e1, e2⟩ := D.val i d e
  exact ⟨v, e1, k v (.dt d) s (Nxt.refl D) e2 q⟩
theorem we_slot {i : Nat} {sl : Sl} {d : U} {Q : Av → Sls → Prop} (e : ρ[i]? = some sl) (c : sl.cell = some d) (q : Q (.sl i) ρ) : WE K W (tVar i) ρ Q X := by
  rintro s Q0 rfl D _ k
  obtain ⟨a, o, e1, _⟩ := D.own i sl d e c
  exact ⟨_, e1, k _ (.sl i) s (Nxt.refl D) e1 q⟩
theorem we_own {i : Nat} {d : U} {Q : Av → Sls → Prop} (e : ρ[i]? = some (.own d)) (q : Q (.sl i) ρ) : WE K W (tVar i) ρ Q X := we_slot e rfl q
theorem we_bor {i : Nat} {d : U} {Q : Av → Sls → Prop} (e : ρ[i]? = some (.bor d)) (q : Q (.sl i) ρ) : WE K W (tVar i) ρ Q X := we_slot e rfl q
theorem we_c {v : V} {d : U} {Q : Av → Sls → Prop} (h : ∀ G, At K G v d) (q : Q (.dt d) ρ) : WE K W (tC v) ρ Q X := by
  rintro s Q0 rfl D _ k
  exact k v (.dt d) s (Nxt.refl D) (h _) q
theorem we_int {i : Int} {Q : Av → Sls → Prop} (q : Q (.dt (.int i)) ρ) : WE K W (tC (.int i)) ρ Q X := we_c (fun _ => .int i) q
theorem we_str {z : Str} {Q : Av → Sls → Prop} (q : Q (.dt (.str z)) ρ) : WE K W (tC (.str z)) ρ Q X := we_c (fun _ => .str z) q
theorem we_bl {b : Bool} {Q : Av → Sls → Prop} (q : Q (.dt (.bl b)) ρ) : WE K W (tC (.bl b)) ρ Q X := we_c (fun _ => .bl b) q
theorem we_non {Q : Av → Sls → Prop} (q : Q (.dt .non) ρ) : WE K W (tC .non) ρ Q X := we_c (fun _ => .non) q
theorem we_ty {n : String} {Q : Av → Sls → Prop} (q : Q (.dt (.ty n)) ρ) : WE K W (tC (.ty n)) ρ Q X := we_c (fun _ => .ty n) q
theorem we_raw {a : Addr} {Q : Av → Sls → Prop} (q : Q (.dt (.raw a)) ρ) : WE K W (tC (.ref a)) ρ Q X := we_c (fun _ => .raw a) q
/-! ### operators, by values -/
def WR (K : PySem.W.Frag) (W : Wx) (r : R2) (a b : Av) (ρ : Sls) (Q : Av → Sls → Prop) (X : Er → Sls → Prop) : Prop :=
  ∀ (s : Sta) (v w : V) (Q0 : VK), s.ρ = ρ → Den K s → XOk K s W X → AvOk K s s v a → AvOk K s s w b → Cnt K s Q Q0 → r v w s.H Q0
theorem we_op {r : R2} {ta tb : TE} {Q : Av → Sls → Prop} (h : WE K W ta ρ (fun a ρ1 => WE K W tb ρ1 (fun b ρ2 => WR K W r a.fl b.fl ρ2 Q X) X) X) : WE K W (tOp r ta tb) ρ Q X := by
  rintro s Q0 rfl D x k
  refine WE.flat (Q := fun a ρ1 => WE K W tb ρ1 (fun b ρ2 => WR K W r a b.fl ρ2 Q X) X) h rfl D x fun v a s1 n1 f1 ok1 q1 => ?_
  show tb s.σ s1.H _
  rw [← n1.slots]
  refine WE.flat (Q := fun b ρ2 => WR K W r a b ρ2 Q X) q1 rfl n1.den (x.next n1.stp) fun w b s2 n2 f2 ok2 q2 => ?_
  exact q2 s2 v w Q0 rfl n2.den (x.next (n1.trans n2).stp) ((AvOk.next f1 n2 ok1).self f1) ok2 (k.lift (n1.trans n2))
/-- a rule that leaves the heap and gives a datum -/
theorem wr_pure {r : R2} {a b : Av} {d : U} {Q : Av → Sls → Prop} (h : ∀ s v w (Q0 : VK), s.ρ = ρ → Den K s → AvOk K s s v a → AvOk K s s w b → (∀ u, At K s.G u d → Q0 u s.H) → r v w s.H Q0) (q : Q (.dt d) ρ) : WR K W r a b ρ Q X := by
  rintro s v w Q0 rfl D x ok1 ok2 k
  exact h s v w Q0 rfl D ok1 ok2 fun u hu => k u (.dt d) s (Nxt.refl D) hu q
/-! ### tests -/
theorem wt_test {t : TE} {Q : Bool → Sls → Prop} (h : WE K W t ρ (fun a ρ1 => ∃ b, a = .dt (.bl b) ∧ Q b ρ1) X) : WT K W (tTest t) ρ Q X := by
  rintro s Q0 rfl D x k
  refine h s _ rfl D x fun v av s1 n ok ⟨b, e, q⟩ => ?_
  subst e
  have ok : At K s1.G v (.bl b) := ok
  cases ok
  exact ⟨b, rfl, k b s1 n q⟩
theorem wt_b {t : TE} {Q : Bool → Sls → Prop} (h : WE K W t ρ (fun a ρ1 => ∃ b, a = .dt (.bl b) ∧ Q b ρ1) X) : WT K W (tB t) ρ Q X := by
  rintro s Q0 rfl D x k
  refine h s _ rfl D x fun v av s1 n ok ⟨b, e, q⟩ => ?_
  subst e
  have ok : At K s1.G v (.bl b) := ok
  cases ok
  exact ⟨b, rfl, k b s1 n q⟩
theorem WT.go {t : TT} {Q : Bool → Sls → Prop} (h : WT K W t ρ Q X) {s s1 : Sta} {Q0 : Bool → Hp → Prop} (n : Nxt K s s1) (e : s1.ρ = ρ) (x : XOk K s W X) (k : ∀ b s', Nxt K s s' → Q b s'.ρ → Q0 b s'.H) : t s.σ s1.H Q0 := by
  rw [← n.slots]
  exact h s1 Q0 e n.den (x.next n.stp) fun b s2 n2 q => k b s2 (n.trans n2) q
theorem WE.go {t : TE} {Q : Av → Sls → Prop} (h : WE K W t ρ Q X) {s s1 : Sta} {Q0 : VK} (n : Nxt K s s1) (e : s1.ρ = ρ) (x : XOk K s W X) (k : Cnt K s Q Q0) : t s.σ s1.H Q0 := by
  rw [← n.slots]
  exact h s1 Q0 e n.den (x.next n.stp) (k.lift n)
theorem wt_and {t u : TT} {Q : Bool → Sls → Prop} (h : WT K W t ρ (fun b ρ1 => if b = true then WT K W u ρ1 Q X else Q false ρ1) X) : WT K W (tAnd t u) ρ Q X := by
  rintro s Q0 rfl D x k
  refine h s _ rfl D x fun b s1 n q => ?_
  cases b with
  | true => exact iteT ((show WT K W u s1.ρ Q X by simpa using q).go n rfl x k)
  | false => exact iteF (k false s1 n (by simpa using q))
theorem wt_or {t u : TT} {Q : Bool → Sls → Prop} (h : WT K W t ρ (fun b ρ1 => if b = true then Q true ρ1 else WT K W u ρ1 Q X) X) : WT K W (tOr t u) ρ Q X := by
  rintro s Q0 rfl D x k
  refine h s _ rfl D x fun b s1 n q => ?_
  cases b with
  | true => exact iteT (k true s1 n (by simpa using q))
  | false => exact iteF ((show WT K W u s1.ρ Q X by simpa using q).go n rfl x k)
theorem wt_not {t : TT} {Q : Bool → Sls → Prop} (h : WT K W t ρ (fun b ρ1 => Q (!b) ρ1) X) : WT K W (tNot t) ρ Q X := by
  rintro s Q0 rfl D x k
  exact h s _ rfl D x fun b s1 n q => k (!b) s1 n q
theorem wt_yes {Q : Bool → Sls → Prop} (q : Q true ρ) : WT K W tYes ρ Q X := by
  rintro s Q0 rfl D x k
  exact k true s (Nxt.refl D) q
theorem we_if {c : TT} {ta tb : TE} {Q : Av → Sls → Prop} (h : WT K W c ρ (fun b ρ1 => if b = true then WE K W ta ρ1 Q X else WE K W tb ρ1 Q X) X) : WE K W (tIf c ta tb) ρ Q X := by
  rintro s Q0 rfl D x k
  refine h s _ rfl D x fun b s1 n q => ?_
  cases b with
  | true => exact iteT ((show WE K W ta s1.ρ Q X by simpa using q).go n rfl x k)
  | false => exact iteF ((show WE K W tb s1.ρ Q X by simpa using q).go n rfl x k)
theorem we_isN {t : TE} {Q : Av → Sls → Prop} (h : WE K W t ρ (fun a ρ1 => ∃ b, (∀ (s : Sta) v, s.ρ = ρ1 → Den K s → AvOk K s s v a.fl → decide (v = .non) = b) ∧ Q (.dt (.bl b)) ρ1) X) : WE K W (tIsN t) ρ Q X := by
  rintro s Q0 rfl D x k
  refine WE.flat (Q := fun a ρ1 => ∃ b, (∀ (s : Sta) v, s.ρ = ρ1 → Den K s → AvOk K s s v a → decide (v = .non) = b) ∧ Q (.dt (.bl b)) ρ1) h rfl D x fun v av s1 n f ok ⟨b, e, q⟩ => ?_
  rw [e s1 v rfl n.den ok]
  exact k _ (.dt (.bl b)) s1 n (At.bl b) q
/-! ### argument lists, displays -/
theorem wa_nil {Q : List Av → Sls → Prop} (q : Q [] ρ) : WA K W tNil ρ Q X := by
  rintro s Q0 rfl D x k
  exact k [] [] s (Nxt.refl D) .nil q
theorem wa_cons {te : TE} {tr : TA} {Q : List Av → Sls → Prop} (h : WE K W te ρ (fun a ρ1 => WA K W tr ρ1 (fun as ρ2 => Q (a.fl :: as) ρ2) X) X) : WA K W (tCons te tr) ρ Q X := by
  rintro s Q0 rfl D x k
  refine WE.flat (Q := fun a ρ1 => WA K W tr ρ1 (fun as ρ2 => Q (a :: as) ρ2) X) h rfl D x fun v a s1 n1 f1 ok1 q1 => ?_
  show tr s.σ s1.H _
  rw [← n1.slots]
  exact q1 s1 _ rfl n1.den (x.next n1.stp) fun vs as s2 n2 ok2 q2 => k _ _ s2 (n1.trans n2) (.cons f1 ((AvOk.next f1 n2 ok1).self f1) ok2) q2
end

/-! ### states: new objects, slots frozen, slots stored -/
section
variable {K : PySem.W.Frag} {W : Wx}
theorem Den.free {s : Sta} {a : Addr} (D : Den K s) (h : s.H a = none) : s.G a = none ∧ ¬ Owns s a := by
  refine ⟨D.sub.free h, ?_⟩
  rintro ⟨i, ⟨sl, d, e1, e2⟩, e3⟩
  obtain ⟨b, o, e4, _, e5, _⟩ := D.own i sl d e1 e2
  rw [e3] at e4
  cases e4
  rw [h] at e5
  cases e5
/-- a new object is laid -/
theorem lay {s : Sta} {p : Addr} {o : HO} (D : Den K s) (h : s.H p = none) : Nxt K s { s with H := upd s.H p o } := by
  have nn : ∀ {b : Addr} {u : HO}, s.H b = some u → upd s.H p o b = some u := fun {b u} e => by
    rw [upd_ne (ne_of_none e h)]
    exact e
  refine ⟨⟨fun _ _ e => e, fun a u e _ => nn e, fun a e => ?_, fun _ h => .inl h, fun _ _ _ e => e, fun _ d e => ⟨d, e, rfl⟩⟩, ⟨fun b u e => nn (D.sub b u e), D.len, D.val, fun i sl d e1 e2 => ?_, D.dis⟩, rfl⟩
  · have e : upd s.H p o a = none := e
    by_cases q : a = p
    · rw [q, upd_same] at e
      cases e
    · rw [upd_ne q] at e
      exact e
  · obtain ⟨a, u, e3, e4, e5, e6⟩ := D.own i sl d e1 e2
    exact ⟨a, u, e3, e4, nn e5, e6⟩
/-- .. and frozen -/
theorem layF {s : Sta} {p : Addr} {o : HO} (D : Den K s) (h : s.H p = none) : Nxt K s { s with H := upd s.H p o, G := upd s.G p o } ∧ Same s.G (upd s.G p o) := by
  have n := lay (o := o) D h
  obtain ⟨g, no⟩ := D.free h
  have sub : Same s.G (upd s.G p o) := fun b u e => by
    rw [upd_ne (ne_of_none e g)]
    exact e
  refine ⟨⟨⟨sub, n.stp.fr, n.stp.dom, n.stp.own, fun b n1 n2 e => ?_, n.stp.bor⟩, ⟨fun b u e => ?_, n.den.len, fun i x e => ?_, fun i sl x e1 e2 => ?_, n.den.dis⟩, rfl⟩, sub⟩
  · show upd s.G p o b = none
    rw [upd_ne (fun q => n1 (by rw [q]; exact h))]
    exact e
  · have e : upd s.G p o b = some u := e
    show upd s.H p o b = some u
    by_cases q : b = p
    · subst q
      rw [upd_same] at e ⊢
      exact e
    · rw [upd_ne q] at e ⊢
      exact D.sub b u e
  · obtain ⟨v, e1, e2⟩ := D.val i x e
    exact ⟨v, e1, At.mono sub _ _ e2⟩
  · obtain ⟨b, u, e3, e4, e5, e6⟩ := n.den.own i sl x e1 e2
    refine ⟨b, u, e3, ?_, e5, e6.mono sub⟩
    show upd s.G p o b = none
    rw [upd_ne ?_]
    · exact e4
    · rintro rfl
      exact no ⟨i, ⟨sl, x, e1, e2⟩, e3⟩
theorem lt_of_get {α : Type} {xs : List α} {i : Nat} {x : α} (e : xs[i]? = some x) : i < xs.length := (List.getElem?_eq_some_iff.mp e).1
theorem get_set {α : Type} {xs : List α} {i j : Nat} {x y : α} (e : (xs.set i x)[j]? = some y) : (j = i ∧ y = x ∧ i < xs.length) ∨ (j ≠ i ∧ xs[j]? = some y) := by
  by_cases h : j = i
  · subst h
    have l : j < xs.length := by
      have := lt_of_get e
      rw [List.length_set] at this
      exact this
    rw [List.getElem?_set_self l] at e
    exact .inl ⟨rfl, (Option.some.inj e).symm, l⟩
  · rw [List.getElem?_set_ne (Ne.symm h)] at e
    exact .inr ⟨h, e⟩
/-- a slot of which less is known -/
theorem Den.weak {s : Sta} {i : Nat} {x : Sl} (D : Den K s) (hx : x = .un ∨ ∃ d, x = .val d ∧ ∃ v, s.σ[i]? = some (some v) ∧ At K s.G v d) : Den K { s with ρ := s.ρ.set i x } := by
  refine ⟨D.sub, by show s.σ.length = (s.ρ.set i x).length; rw [List.length_set]; exact D.len, fun j d e => ?_, fun j sl d e1 e2 => ?_, fun j k a h1 h2 => ?_⟩
  · rcases get_set e with ⟨rfl, rfl, _⟩ | ⟨_, e⟩
    · rcases hx with hx | ⟨d', hx, v, h1, h2⟩
      · cases hx
      · cases hx
        exact ⟨v, h1, h2⟩
    · exact D.val j d e
  · rcases get_set e1 with ⟨rfl, rfl, _⟩ | ⟨_, e⟩
    · rcases hx with rfl | ⟨d', rfl, _⟩
      · cases e2
      · cases e2
    · exact D.own j sl d e e2
  · have f : ∀ {j a}, OwnAt { s with ρ := s.ρ.set i x } j a → OwnAt s j a := fun {j a} h => by
      obtain ⟨⟨sl, d, e1, e2⟩, e3⟩ := h
      rcases get_set e1 with ⟨rfl, rfl, _⟩ | ⟨_, e⟩
      · rcases hx with rfl | ⟨d', rfl, _⟩
        · cases e2
        · cases e2
      · exact ⟨⟨sl, d, e, e2⟩, e3⟩
    exact D.dis j k a (f h1) (f h2)
theorem Owns.weak {s : Sta} {i : Nat} {x : Sl} {G : Hp} (hx : x.cell = none) {a : Addr} (h : Owns { s with ρ := s.ρ.set i x, G := G } a) : Owns s a ∧ ∃ j, j ≠ i ∧ OwnAt s j a := by
  obtain ⟨j, ⟨sl, d, e1, e2⟩, e3⟩ := h
  rcases get_set e1 with ⟨rfl, rfl, _⟩ | ⟨n, e⟩
  · rw [hx] at e2
    cases e2
  · exact ⟨⟨j, ⟨sl, d, e, e2⟩, e3⟩, j, n, ⟨sl, d, e, e2⟩, e3⟩
/-- an own slot is frozen where it is -/
theorem freeze_slot {s : Sta} {i : Nat} {d : U} (D : Den K s) (e : s.ρ[i]? = some (.own d)) : ∃ G, Nxt K s { s with G := G, ρ := s.ρ.set i (.val d) } ∧ Same s.G G ∧ ∃ v, s.σ[i]? = some (some v) ∧ At K G v d := by
  obtain ⟨a, o, e1, e2, e3, e4⟩ := D.own i _ d e rfl
  have oa : OwnAt s i a := ⟨⟨_, d, e, rfl⟩, e1⟩
  have sub : Same s.G (upd s.G a o) := fun b u q => by
    rw [upd_ne (ne_of_none q e2)]
    exact q
  have atd : At K (upd s.G a o) (.ref a) d := (e4.mono sub).at upd_same
  refine ⟨upd s.G a o, ⟨⟨sub, fun b u q _ => q, fun b q => q, fun b h => .inl (Owns.weak rfl h).1, fun b n1 n2 q => ?_, fun j x q => ?_⟩, ⟨fun b u q => ?_, ?_, fun j x q => ?_, fun j sl x q1 q2 => ?_, fun j k b h1 h2 => ?_⟩, rfl⟩, sub, .ref a, e1, atd⟩
  · show upd s.G a o b = none
    rw [upd_ne (fun h => n2 (by rw [h]; exact ⟨i, oa⟩))]
    exact q
  · refine ⟨x, ?_, rfl⟩
    show (s.ρ.set i (.val d))[j]? = _
    rw [List.getElem?_set_ne (fun h => by rw [← h, e] at q; cases q)]
    exact q
  · have q : upd s.G a o b = some u := q
    by_cases h : b = a
    · subst h
      rw [upd_same] at q
      cases q
      exact e3
    · rw [upd_ne h] at q
      exact D.sub b u q
  · show s.σ.length = (s.ρ.set i (.val d)).length
    rw [List.length_set]
    exact D.len
  · rcases get_set q with ⟨rfl, h, _⟩ | ⟨_, q⟩
    · cases h
      exact ⟨.ref a, e1, atd⟩
    · obtain ⟨v, h1, h2⟩ := D.val j x q
      exact ⟨v, h1, At.mono sub _ _ h2⟩
  · rcases get_set q1 with ⟨rfl, h, _⟩ | ⟨n, q⟩
    · subst h
      cases q2
    · obtain ⟨b, u, h1, h2, h3, h4⟩ := D.own j sl x q q2
      refine ⟨b, u, h1, ?_, h3, h4.mono sub⟩
      show upd s.G a o b = none
      rw [upd_ne ?_]
      · exact h2
      · rintro rfl
        exact n (D.dis j i b ⟨⟨sl, x, q, q2⟩, h1⟩ oa)
  · have f : ∀ {j b}, OwnAt { s with G := upd s.G a o, ρ := s.ρ.set i (.val d) } j b → OwnAt s j b := fun {j b} h => by
      obtain ⟨⟨sl, x, q1, q2⟩, q3⟩ := h
      rcases get_set q1 with ⟨rfl, h, _⟩ | ⟨n, q⟩
      · subst h
        cases q2
      · exact ⟨⟨sl, x, q, q2⟩, q3⟩
    exact D.dis j k b (f h1) (f h2)
/-- is no borrowed slot -/
def nb (ρ : Sls) (i : Nat) : Bool := match ρ[i]? with
  | some (.bor _) => false
  | some _ => true
  | none => false
theorem nb_lt {ρ : Sls} {i : Nat} (h : nb ρ i = true) : i < ρ.length ∧ ∀ d, ρ[i]? ≠ some (.bor d) := by
  unfold nb at h
  cases e : ρ[i]? with
  | none => rw [e] at h; cases h
  | some x =>
    refine ⟨lt_of_get e, fun d q => ?_⟩
    cases q
    rw [e] at h
    cases h
/-- a slot is stored: a datum -/
theorem put_val {s : Sta} {i : Nat} {v : V} {d : U} (D : Den K s) (h : nb s.ρ i = true) (hv : At K s.G v d) : Stp s { s with ρ := s.ρ.set i (.val d), σ := s.σ.set i (some v) } ∧ Den K { s with ρ := s.ρ.set i (.val d), σ := s.σ.set i (some v) } := by
  obtain ⟨hl, hb⟩ := nb_lt h
  have hl2 : i < s.σ.length := by rw [D.len]; exact hl
  have f : ∀ {j b}, OwnAt { s with ρ := s.ρ.set i (.val d), σ := s.σ.set i (some v) } j b → j ≠ i ∧ OwnAt s j b := fun {j b} h => by
    obtain ⟨⟨sl, x, q1, q2⟩, q3⟩ := h
    rcases get_set q1 with ⟨rfl, h, _⟩ | ⟨n, q⟩
    · subst h
      cases q2
    · refine ⟨n, ⟨sl, x, q, q2⟩, ?_⟩
      rcases get_set q3 with ⟨h, _⟩ | ⟨_, q3⟩
      · exact absurd h n
      · exact q3
  refine ⟨⟨fun _ _ e => e, fun _ _ e _ => e, fun _ e => e, fun b ⟨j, h⟩ => .inl ⟨j, (f h).2⟩, fun _ _ _ e => e, fun j x e => ?_⟩, ⟨D.sub, ?_, fun j x e => ?_, fun j sl x e1 e2 => ?_, fun j k b h1 h2 => D.dis j k b (f h1).2 (f h2).2⟩⟩
  · have n : i ≠ j := fun q => hb x (by rw [q]; exact e)
    exact ⟨x, by show (s.ρ.set i _)[j]? = _; rw [List.getElem?_set_ne n]; exact e, by show (s.σ.set i _)[j]? = _; rw [List.getElem?_set_ne n]⟩
  · show (s.σ.set i (some v)).length = (s.ρ.set i (.val d)).length
    rw [List.length_set, List.length_set]
    exact D.len
  · rcases get_set e with ⟨rfl, h, _⟩ | ⟨n, e⟩
    · cases h
      exact ⟨v, List.getElem?_set_self hl2, hv⟩
    · obtain ⟨u, h1, h2⟩ := D.val j x e
      exact ⟨u, by show (s.σ.set i _)[j]? = _; rw [List.getElem?_set_ne (Ne.symm n)]; exact h1, h2⟩
  · rcases get_set e1 with ⟨rfl, h, _⟩ | ⟨n, e⟩
    · subst h
      cases e2
    · obtain ⟨b, u, h1, h2, h3, h4⟩ := D.own j sl x e e2
      exact ⟨b, u, by show (s.σ.set i _)[j]? = _; rw [List.getElem?_set_ne (Ne.symm n)]; exact h1, h2, h3, h4⟩
/-- .. a new own object -/
theorem put_own {s0 s : Sta} {i : Nat} {v : V} {d : U} (n0 : Stp s0 s) (D : Den K s) (h : nb s.ρ i = true) (hv : AvOk K s0 s v (.own d)) : Stp s0 { s with ρ := s.ρ.set i (.own d), σ := s.σ.set i (some v) } ∧ Den K { s with ρ := s.ρ.set i (.own d), σ := s.σ.set i (some v) } := by
  obtain ⟨a, o, rfl, v2, v3, v4, v5, v6⟩ := hv
  obtain ⟨hl, hb⟩ := nb_lt h
  have hl2 : i < s.σ.length := by rw [D.len]; exact hl
  have f : ∀ {j b}, OwnAt { s with ρ := s.ρ.set i (.own d), σ := s.σ.set i (some (.ref a)) } j b → (j = i ∧ b = a) ∨ (j ≠ i ∧ OwnAt s j b) := fun {j b} h => by
    obtain ⟨⟨sl, x, q1, q2⟩, q3⟩ := h
    rcases get_set q3 with ⟨rfl, h, _⟩ | ⟨n, q3⟩
    · cases h
      exact .inl ⟨rfl, rfl⟩
    · rcases get_set q1 with ⟨h, _⟩ | ⟨_, q⟩
      · exact absurd h n
      · exact .inr ⟨n, ⟨sl, x, q, q2⟩, q3⟩
  refine ⟨⟨n0.sub, n0.fr, n0.dom, fun b ⟨j, h⟩ => ?_, n0.gfr, fun j x e => ?_⟩, ⟨D.sub, ?_, fun j x e => ?_, fun j sl x e1 e2 => ?_, fun j k b h1 h2 => ?_⟩⟩
  · rcases f h with ⟨_, rfl⟩ | ⟨_, h⟩
    · exact v6.elim .inr .inl
    · exact n0.own b ⟨j, h⟩
  · obtain ⟨x', e1, e2⟩ := n0.bor j x e
    have n : i ≠ j := fun q => hb x' (by rw [q]; exact e1)
    exact ⟨x', by show (s.ρ.set i _)[j]? = _; rw [List.getElem?_set_ne n]; exact e1, by show (s.σ.set i _)[j]? = _; rw [List.getElem?_set_ne n]; exact e2⟩
  · show (s.σ.set i _).length = (s.ρ.set i _).length
    rw [List.length_set, List.length_set]
    exact D.len
  · rcases get_set e with ⟨rfl, h, _⟩ | ⟨n, e⟩
    · cases h
    · obtain ⟨u, h1, h2⟩ := D.val j x e
      exact ⟨u, by show (s.σ.set i _)[j]? = _; rw [List.getElem?_set_ne (Ne.symm n)]; exact h1, h2⟩
  · rcases get_set e1 with ⟨rfl, h, _⟩ | ⟨n, e⟩
    · subst h
      cases e2
      exact ⟨a, o, List.getElem?_set_self hl2, v3, v2, v4⟩
    · obtain ⟨b, u, h1, h2, h3, h4⟩ := D.own j sl x e e2
      exact ⟨b, u, by show (s.σ.set i _)[j]? = _; rw [List.getElem?_set_ne (Ne.symm n)]; exact h1, h2, h3, h4⟩
  · rcases f h1 with ⟨rfl, rfl⟩ | ⟨m1, h1⟩ <;> rcases f h2 with ⟨hk, hba⟩ | ⟨m2, h2⟩
    · exact hk.symm
    · exact absurd ⟨k, h2⟩ v5
    · exact absurd ⟨j, hba ▸ h1⟩ v5
    · exact D.dis j k b h1 h2
/-! ### displays -/
/-- own slots among operands are frozen; what they are then -/
inductive Frz : Sls → List Av → List U → Sls → Prop
  | nil {ρ : Sls} : Frz ρ [] [] ρ
  | dt {ρ ρ' : Sls} {d : U} {as : List Av} {ds : List U} : Frz ρ as ds ρ' → Frz ρ (.dt d :: as) (d :: ds) ρ'
  | sl {ρ ρ' : Sls} {i : Nat} {d : U} {as : List Av} {ds : List U} : ρ[i]? = some (.own d) → Frz (ρ.set i (.val d)) as ds ρ' → Frz ρ (.sl i :: as) (d :: ds) ρ'
  | va {ρ ρ' : Sls} {i : Nat} {d : U} {as : List Av} {ds : List U} : ρ[i]? = some (.val d) → Frz ρ as ds ρ' → Frz ρ (.sl i :: as) (d :: ds) ρ'
theorem Frz.run : ∀ {ρ ρ' : Sls} {as : List Av} {ds : List U}, Frz ρ as ds ρ' → ∀ {s : Sta} {vs : List V}, s.ρ = ρ → Den K s → AvsOk K s vs as → ∃ s2, s2.ρ = ρ' ∧ s2.H = s.H ∧ Nxt K s s2 ∧ AtAll K s2.G vs ds
  | _, _, _, _, .nil, s, _, e, D, .nil => ⟨s, e, rfl, Nxt.refl D, .nil⟩
  | _, _, _, _, .dt f, s, _, e, D, .cons _ h t => by
    obtain ⟨s2, e1, e2, n, q⟩ := Frz.run f e D t
    exact ⟨s2, e1, e2, n, .cons (At.mono n.stp.sub _ _ h) q⟩
  | _, _, _, _, .sl (i := i) e0 f, s, _, e, D, .cons _ h t => by
    subst e
    obtain ⟨G, n, sub, v, h1, h2⟩ := freeze_slot D e0
    obtain ⟨s2, e1, e2, n2, q⟩ := Frz.run f (s := { s with G := G, ρ := s.ρ.set i _ }) rfl n.den (AvsOk.next n t)
    have h : s.σ[i]? = some (some _) := h
    rw [h] at h1
    cases h1
    exact ⟨s2, e1, e2, n.trans n2, .cons (At.mono n2.stp.sub _ _ h2) q⟩
  | _, _, _, _, .va (i := i) e0 f, s, _, e, D, .cons _ h t => by
    subst e
    obtain ⟨s2, e1, e2, n, q⟩ := Frz.run f rfl D t
    have h : s.σ[i]? = some (some _) := h
    obtain ⟨v, h1, h2⟩ := D.val i _ e0
    rw [h] at h1
    cases h1
    exact ⟨s2, e1, e2, n, .cons (At.mono n.stp.sub _ _ h2) q⟩
variable {X : Er → Sls → Prop} {ρ : Sls}
theorem we_tup {t : TA} {Q : Av → Sls → Prop} (h : WA K W t ρ (fun as ρ1 => ∃ ds ρ2, Frz ρ1 as ds ρ2 ∧ ds.length ≤ 1000 ∧ Q (.dt (.tup ds)) ρ2) X) : WE K W (tTup t) ρ Q X := by
  rintro s Q0 rfl D x k
  refine h s _ rfl D x fun vs as s1 n1 ok ⟨ds, ρ2, f, hl, q⟩ => ?_
  obtain ⟨s2, e1, e2, n2, hd⟩ := f.run rfl n1.den ok
  refine ⟨Nat.le_of_lt (small1000 (by rw [hd.length]; exact hl)), fun p hp => ?_⟩
  rw [← e2] at hp ⊢
  obtain ⟨n3, sub⟩ := layF (o := .tup vs) n2.den hp
  exact k (.ref p) (.dt (.tup ds)) _ (n1.trans (n2.trans n3)) (.tup (SqT.of upd_same) (AtAll.mono sub _ _ hd)) (by show Q _ s2.ρ; rw [e1]; exact q)
theorem we_lst {t : TA} {Q : Av → Sls → Prop} (h : WA K W t ρ (fun as ρ1 => ∃ ds ρ2, Frz ρ1 as ds ρ2 ∧ ds.length ≤ 1000 ∧ Q (.own (.lst ds)) ρ2) X) : WE K W (tLst t) ρ Q X := by
  rintro s Q0 rfl D x k
  refine h s _ rfl D x fun vs as s1 n1 ok ⟨ds, ρ2, f, hl, q⟩ => ?_
  obtain ⟨s2, e1, e2, n2, hd⟩ := f.run rfl n1.den ok
  refine ⟨Nat.le_of_lt (small1000 (by rw [hd.length]; exact hl)), fun p hp => ?_⟩
  rw [← e2] at hp ⊢
  have n3 := lay (o := .lst vs) n2.den hp
  have n12 := n1.trans n2
  obtain ⟨g, no⟩ := n2.den.free hp
  exact k (.ref p) (.own (.lst ds)) _ (n12.trans n3) ⟨p, .lst vs, rfl, upd_same, g, .lst hd, no, .inl (n12.stp.dom p hp)⟩ (by show Q _ s2.ρ; rw [e1]; exact q)
theorem we_dnewK {Q : Av → Sls → Prop} (q : Q (.own (.dic [] [])) ρ) : WE K W tDNewK ρ Q X := by
  rintro s Q0 rfl D x k p hp
  have n3 := lay (o := .dK []) D hp
  obtain ⟨g, no⟩ := D.free hp
  exact k (.ref p) (.own (.dic [] [])) _ n3 ⟨p, .dK [], rfl, upd_same, g, .dic (kvs := []) .nil, no, .inl hp⟩ q
theorem we_dnewT {Q : Av → Sls → Prop} (q : Q (.own (.dct [] [])) ρ) : WE K W tDNewT ρ Q X := by
  rintro s Q0 rfl D x k p hp
  have n3 := lay (o := .dT []) D hp
  obtain ⟨g, no⟩ := D.free hp
  exact k (.ref p) (.own (.dct [] [])) _ n3 ⟨p, .dT [], rfl, upd_same, g, .dct (kvs := []) .nil, no, .inl hp⟩ q
/-! ### statements -/
structure Post where
  nx : Sls → Prop
  rt : Av → Sls → Prop
  bk : Sls → Prop := fun _ => False
  ct : Sls → Prop := fun _ => False
  xc : Er → Sls → Prop := fun _ _ => False
structure Fin (K : PySem.W.Frag) (s : Sta) (D : Ends) (P : Post) : Prop where
  nx : ∀ s', Stp s s' → Den K s' → P.nx s'.ρ → D.nx s'.σ s'.H
  rt : ∀ v av s', Stp s s' → Den K s' → AvOk K s s' v av → P.rt av s'.ρ → D.rt v s'.H
  bk : ∀ s', Stp s s' → Den K s' → P.bk s'.ρ → D.bk s'.σ s'.H
  ct : ∀ s', Stp s s' → Den K s' → P.ct s'.ρ → D.ct s'.σ s'.H
theorem Fin.next {s s1 : Sta} {D : Ends} {P : Post} (f : Fin K s D P) (n : Stp s s1) : Fin K s1 D P :=
  ⟨fun s' m d q => f.nx s' (n.trans m) d q, fun v av s' m d ok q => f.rt v av s' (n.trans m) d (ok.base n) q, fun s' m d q => f.bk s' (n.trans m) d q, fun s' m d q => f.ct s' (n.trans m) d q⟩
def WS (K : PySem.W.Frag) (W : Wx) (t : TS) (ρ : Sls) (P : Post) : Prop :=
  ∀ (s : Sta) (D : Ends), s.ρ = ρ → Den K s → XOk K s W P.xc → Fin K s D P → t D s.σ s.H
variable {P : Post}
theorem ws_next (q : P.nx ρ) : WS K W tNext ρ P := by
  rintro s D rfl d x f
  exact f.nx s (Stp.refl s) d q
theorem ws_break (q : P.bk ρ) : WS K W tBreak ρ P := by
  rintro s D rfl d x f
  exact f.bk s (Stp.refl s) d q
theorem ws_cont (q : P.ct ρ) : WS K W tCont ρ P := by
  rintro s D rfl d x f
  exact f.ct s (Stp.refl s) d q
theorem ws_seq {t u : TS} (h : WS K W t ρ { P with nx := fun ρ1 => WS K W u ρ1 P }) : WS K W (tSeq t u) ρ P := by
  rintro s D rfl d x f
  exact h s { D with nx := u D } rfl d x ⟨fun s1 n d1 q => q s1 D rfl d1 (x.next n) (f.next n), f.rt, f.bk, f.ct⟩
theorem ws_drop {te : TE} (h : WE K W te ρ (fun _ ρ1 => P.nx ρ1) P.xc) : WS K W (tDrop te) ρ P := by
  rintro s D rfl d x f
  refine h s _ rfl d x fun v av s1 n ok q => ?_
  rw [← n.slots]
  exact f.nx s1 n.stp n.den q
/-- what a return gives out -/
def Rt (a : Av) (ρ : Sls) (N : Av → Sls → Prop) : Prop := match a with
  | .sl i => (∃ d, ρ[i]? = some (.own d) ∧ N (.own d) (ρ.set i .un)) ∨ ∃ d, ρ[i]? = some (.val d) ∧ N (.dt d) ρ
  | a => N a ρ
theorem ws_ret {te : TE} (h : WE K W te ρ (fun a ρ1 => Rt a ρ1 P.rt) P.xc) : WS K W (tRet te) ρ P := by
  rintro s D rfl d x f
  refine h s _ rfl d x fun v av s1 n ok q => ?_
  cases av with
  | dt z => exact f.rt v (.dt z) s1 n.stp n.den ok q
  | own z => exact f.rt v (.own z) s1 n.stp n.den ok q
  | sl i =>
    have ok : s1.σ[i]? = some (some v) := ok
    rcases q with ⟨z, e, q⟩ | ⟨z, e, q⟩
    · obtain ⟨a, o, e1, e2, e3, e4⟩ := n.den.own i _ z e rfl
      have e0 := e1
      rw [ok] at e1
      cases e1
      have oa : OwnAt s1 i a := ⟨⟨_, z, e, rfl⟩, e0⟩
      refine f.rt (.ref a) (.own z) { s1 with ρ := s1.ρ.set i .un } ⟨n.stp.sub, n.stp.fr, n.stp.dom, fun b h => n.stp.own b (Owns.weak rfl h).1, n.stp.gfr, fun j y h => ?_⟩ (n.den.weak (.inl rfl)) ⟨a, o, rfl, e3, e2, e4, fun h => ?_, (n.stp.own a ⟨i, oa⟩).symm⟩ q
      · obtain ⟨y', h1, h2⟩ := n.stp.bor j y h
        refine ⟨y', ?_, h2⟩
        show (s1.ρ.set i _)[j]? = _
        rw [List.getElem?_set_ne (fun h => by rw [← h, e] at h1; cases h1)]
        exact h1
      · obtain ⟨_, j, nj, h⟩ := Owns.weak (G := s1.G) rfl h
        exact nj (n.den.dis j i a h oa)
    · obtain ⟨v', h1, h2⟩ := n.den.val i z e
      rw [ok] at h1
      cases h1
      exact f.rt v (.dt z) s1 n.stp n.den h2 q
theorem ws_retN (q : P.rt (.dt .non) ρ) : WS K W tRetN ρ P := by
  rintro s D rfl d x f
  exact f.rt .non (.dt .non) s (Stp.refl s) d At.non q
theorem WS.go {t : TS} (h : WS K W t ρ P) {s s1 : Sta} {D : Ends} (n : Nxt K s s1) (e : s1.ρ = ρ) (x : XOk K s W P.xc) (f : Fin K s D P) : t D s.σ s1.H := by
  rw [← n.slots]
  exact h s1 D e n.den (x.next n.stp) (f.next n.stp)
theorem ws_if {c : TT} {t u : TS} (h : WT K W c ρ (fun b ρ1 => if b = true then WS K W t ρ1 P else WS K W u ρ1 P) P.xc) : WS K W (tIfS c t u) ρ P := by
  rintro s D rfl d x f
  refine h s _ rfl d x fun b s1 n q => ?_
  cases b with
  | true => exact iteT ((show WS K W t s1.ρ P by simpa using q).go n rfl x f)
  | false => exact iteF ((show WS K W u s1.ρ P by simpa using q).go n rfl x f)
/-- a value goes into a slot -/
def Put (i : Nat) (a : Av) (ρ : Sls) (N : Sls → Prop) : Prop := nb ρ i = true ∧ match a with
  | .dt d => N (ρ.set i (.val d))
  | .own d => N (ρ.set i (.own d))
  | .sl j => (∃ d, ρ[j]? = some (.own d) ∧ N ((ρ.set j (.val d)).set i (.val d))) ∨ ∃ d, ρ[j]? = some (.val d) ∧ N (ρ.set i (.val d))
theorem nb_set {ρ : Sls} {i j : Nat} {d : U} (h : nb ρ i = true) : nb (ρ.set j (.val d)) i = true := by
  obtain ⟨hl, hb⟩ := nb_lt h
  unfold nb
  cases e : (ρ.set j (.val d))[i]? with
  | none =>
    rw [List.getElem?_eq_none_iff, List.length_set] at e
    omega
  | some x =>
    rcases get_set e with ⟨rfl, rfl, _⟩ | ⟨_, e⟩
    · rfl
    · cases x with
      | bor d => exact absurd e (hb d)
      | _ => rfl
theorem put_run {s s1 : Sta} {i : Nat} {v : V} {av : Av} {N : Sls → Prop} {M : L2.St → Hp → Prop} (n : Nxt K s s1) (ok : AvOk K s s1 v av) (q : Put i av s1.ρ N) (k : ∀ s', Stp s s' → Den K s' → N s'.ρ → M s'.σ s'.H) : M (s.σ.set i (some v)) s1.H := by
  obtain ⟨h, q⟩ := q
  rw [← n.slots]
  cases av with
  | dt d =>
    obtain ⟨a, b⟩ := put_val n.den h ok
    exact k _ (n.stp.trans a) b q
  | own d =>
    obtain ⟨a, b⟩ := put_own n.stp n.den h ok
    exact k _ a b q
  | sl j =>
    have ok : s1.σ[j]? = some (some v) := ok
    rcases q with ⟨d, e, q⟩ | ⟨d, e, q⟩
    · obtain ⟨G, n2, sub, v', h1, h2⟩ := freeze_slot n.den e
      rw [ok] at h1
      cases h1
      obtain ⟨a, b⟩ := put_val (i := i) n2.den (nb_set h) h2
      exact k _ ((n.trans n2).stp.trans a) b q
    · obtain ⟨v', h1, h2⟩ := n.den.val j d e
      rw [ok] at h1
      cases h1
      obtain ⟨a, b⟩ := put_val n.den h h2
      exact k _ (n.stp.trans a) b q
theorem ws_set {i : Nat} {te : TE} (h : WE K W te ρ (fun a ρ1 => Put i a ρ1 P.nx) P.xc) : WS K W (tAsg te (gName i)) ρ P := by
  rintro s D rfl d x f
  exact h s _ rfl d x fun v av s1 n ok q => put_run (M := D.nx) n ok q f.nx
theorem ws_aug {i : Nat} {te : TE} {ti : TIp} {dx : U} (e : ρ[i]? = some (.val dx)) (h : WE K W te ρ (fun b ρ1 => ρ1[i]? = some (.val dx) ∧ WR K W ti (.dt dx) b.fl ρ1 (fun a ρ2 => Put i a ρ2 P.nx) P.xc) P.xc) : WS K W (tAug i te ti) ρ P := by
  rintro s D rfl d x f
  obtain ⟨v, e1, e2⟩ := d.val i dx e
  refine ⟨v, e1, ?_⟩
  refine WE.flat (Q := fun b ρ1 => ρ1[i]? = some (.val dx) ∧ WR K W ti (.dt dx) b ρ1 (fun a ρ2 => Put i a ρ2 P.nx) P.xc) h rfl d x fun w b s1 n fb ok ⟨e3, q⟩ => ?_
  exact q s1 v w _ rfl n.den (x.next n.stp) (At.mono n.stp.sub _ _ e2) ok fun u av s2 n2 ok2 q2 => put_run (M := D.nx) (n.trans n2) (ok2.base n.stp) q2 f.nx
end

/-! ### what a def promises, by data -/
/-- what is asked of the arguments, of what is given out (with the arguments as they are then), of what is raised -/
abbrev RU := Sls → (Av → Sls → Prop) → (Er → Sls → Prop) → Prop
def Args (ρ : Sls) : Prop := ∀ (i : Nat) (sl : Sl), ρ[i]? = some sl → (∃ d, sl = .val d) ∨ ∃ d, sl = .bor d
def Av.ns : Av → Prop
  | .sl _ => False
  | _ => True
def spU (K : PySem.W.Frag) (R : RU) : Sp := fun vs H Q E => ∃ (G : Hp) (ρ : Sls), Den K ⟨G, ρ, vs.map some, H⟩ ∧ Args ρ ∧
  R ρ (fun a ρ' => ∀ v s', s'.σ = vs.map some → s'.ρ = ρ' → Den K s' → Stp ⟨G, ρ, vs.map some, H⟩ s' → a.ns → AvOk K ⟨G, ρ, vs.map some, H⟩ s' v a → Q v s'.H)
    (fun e ρ' => ∀ cls dd s', s'.σ = vs.map some → s'.ρ = ρ' → Den K s' → Stp ⟨G, ρ, vs.map some, H⟩ s' → ErOk K s' cls dd e → E cls dd s'.H)
/-- the arguments behind a body: what was borrowed as it is then -/
def out : Sls → Sls → Sls
  | [], _ => []
  | .bor d :: r, [] => .bor d :: out r []
  | .bor _ :: r, x :: r' => x :: out r r'
  | a :: r, [] => a :: out r []
  | a :: r, _ :: r' => a :: out r r'
theorem out_length : ∀ ρ ρ' : Sls, (out ρ ρ').length = ρ.length
  | [], _ => rfl
  | .bor d :: r, [] => by show (out r []).length + 1 = _; rw [out_length r []]; rfl
  | .bor _ :: r, x :: r' => by show (out r r').length + 1 = _; rw [out_length r r']; rfl
  | .val _ :: r, [] => by show (out r []).length + 1 = _; rw [out_length r []]; rfl
  | .val _ :: r, x :: r' => by show (out r r').length + 1 = _; rw [out_length r r']; rfl
  | .un :: r, [] => by show (out r []).length + 1 = _; rw [out_length r []]; rfl
  | .un :: r, x :: r' => by show (out r r').length + 1 = _; rw [out_length r r']; rfl
  | .own _ :: r, [] => by show (out r []).length + 1 = _; rw [out_length r []]; rfl
  | .own _ :: r, x :: r' => by show (out r r').length + 1 = _; rw [out_length r r']; rfl
theorem out_get : ∀ {ρ ρ' : Sls} {i : Nat} {x : Sl}, (out ρ ρ')[i]? = some x → (∃ d, ρ[i]? = some (.bor d) ∧ (ρ'[i]? = some x ∨ (ρ'[i]? = none ∧ x = .bor d))) ∨ ((∀ d, x ≠ .bor d) ∧ ρ[i]? = some x)
  | [], _, _, _, h => by simp [out] at h
  | .bor d :: r, [], 0, x, h => by
    have h : some (Sl.bor d) = some x := h
    cases h
    exact .inl ⟨d, rfl, .inr ⟨rfl, rfl⟩⟩
  | .bor d :: r, [], i + 1, x, h => by
    rcases out_get (ρ := r) (ρ' := []) (i := i) h with ⟨d, h1, h2⟩ | h
    · exact .inl ⟨d, h1, h2⟩
    · exact .inr h
  | .bor d :: r, y :: r', 0, x, h => .inl ⟨d, rfl, .inl h⟩
  | .bor d :: r, y :: r', i + 1, x, h => out_get (ρ := r) (ρ' := r') (i := i) h
  | .val d :: r, [], 0, x, h => by
    have h : some (Sl.val d) = some x := h
    cases h
    exact .inr ⟨fun _ => nofun, rfl⟩
  | .val d :: r, [], i + 1, x, h => by
    rcases out_get (ρ := r) (ρ' := []) (i := i) h with ⟨d, h1, h2⟩ | h
    · exact .inl ⟨d, h1, h2⟩
    · exact .inr h
  | .val d :: r, y :: r', 0, x, h => by
    have h : some (Sl.val d) = some x := h
    cases h
    exact .inr ⟨fun _ => nofun, rfl⟩
  | .val d :: r, y :: r', i + 1, x, h => out_get (ρ := r) (ρ' := r') (i := i) h
  | .un :: r, [], 0, x, h => by
    have h : some Sl.un = some x := h
    cases h
    exact .inr ⟨fun _ => nofun, rfl⟩
  | .un :: r, [], i + 1, x, h => by
    rcases out_get (ρ := r) (ρ' := []) (i := i) h with ⟨d, h1, h2⟩ | h
    · exact .inl ⟨d, h1, h2⟩
    · exact .inr h
  | .un :: r, y :: r', 0, x, h => by
    have h : some Sl.un = some x := h
    cases h
    exact .inr ⟨fun _ => nofun, rfl⟩
  | .un :: r, y :: r', i + 1, x, h => out_get (ρ := r) (ρ' := r') (i := i) h
  | .own d :: r, [], 0, x, h => by
    have h : some (Sl.own d) = some x := h
    cases h
    exact .inr ⟨fun _ => nofun, rfl⟩
  | .own d :: r, [], i + 1, x, h => by
    rcases out_get (ρ := r) (ρ' := []) (i := i) h with ⟨d, h1, h2⟩ | h
    · exact .inl ⟨d, h1, h2⟩
    · exact .inr h
  | .own d :: r, y :: r', 0, x, h => by
    have h : some (Sl.own d) = some x := h
    cases h
    exact .inr ⟨fun _ => nofun, rfl⟩
  | .own d :: r, y :: r', i + 1, x, h => out_get (ρ := r) (ρ' := r') (i := i) h
section
variable {K : PySem.W.Frag} {W : Wx}
theorem get_pad {α : Type} {xs : List α} {k i : Nat} {u x : α} (h : (xs ++ List.replicate k u)[i]? = some x) (n : x ≠ u) : xs[i]? = some x := by
  by_cases l : i < xs.length
  · rw [List.getElem?_append_left l] at h
    exact h
  · rw [List.getElem?_append_right (by omega)] at h
    have := List.mem_of_getElem? h
    exact absurd (List.eq_of_mem_replicate this) n
theorem pad_get {α : Type} {xs ys : List α} {i : Nat} {x : α} (h : xs[i]? = some x) : (xs ++ ys)[i]? = some x := by
  rw [List.getElem?_append_left (lt_of_get h)]
  exact h
/-- a body, from what it is to keep -/
theorem body_U {R : RU} {t : TS} {N : List Str} {vs : List V} {H : Hp} {Q : VK} {E : XK} (h : spU K R vs H Q E)
    (hb : ∀ (ρ : Sls) (Qd : Av → Sls → Prop) (Xd : Er → Sls → Prop), ρ.length = vs.length → R ρ Qd Xd →
      WS K (fun cls dd _ H' => E cls dd H') t (ρ ++ List.replicate (N.length - vs.length) .un) { nx := fun ρ' => Qd (.dt .non) (out ρ ρ'), rt := fun a ρ' => a.ns ∧ Qd a (out ρ ρ'), xc := fun e ρ' => Xd e (out ρ ρ') }) :
    t { nx := fun _ H' => Q .non H', rt := Q } (start N vs) H := by
  obtain ⟨G, ρ, D, ar, hR⟩ := h
  have hl : ρ.length = vs.length := by
    have : (vs.map some).length = ρ.length := D.len
    rw [List.length_map] at this
    exact this.symm
  have s0 : Den K ⟨G, ρ ++ List.replicate (N.length - vs.length) .un, start N vs, H⟩ := by
    have f : ∀ {i a}, OwnAt ⟨G, ρ ++ List.replicate (N.length - vs.length) .un, start N vs, H⟩ i a → OwnAt ⟨G, ρ, vs.map some, H⟩ i a := fun {i a} ⟨⟨sl, d, e1, e2⟩, e3⟩ => by
      refine ⟨⟨sl, d, get_pad e1 (by rintro rfl; cases e2), e2⟩, get_pad e3 nofun⟩
    refine ⟨D.sub, ?_, fun i d e => ?_, fun i sl d e1 e2 => ?_, fun i j a h1 h2 => D.dis i j a (f h1) (f h2)⟩
    · show (vs.map some ++ List.replicate (N.length - vs.length) none).length = (ρ ++ List.replicate (N.length - vs.length) Sl.un).length
      rw [List.length_append, List.length_append, List.length_replicate, List.length_replicate, List.length_map, hl]
    · obtain ⟨v, h1, h2⟩ := D.val i d (get_pad e nofun)
      exact ⟨v, pad_get h1, h2⟩
    · obtain ⟨a, o, h1, h2⟩ := D.own i sl d (get_pad e1 (by rintro rfl; cases e2)) e2
      exact ⟨a, o, pad_get h1, h2⟩
  -- the state behind the body, the arguments alone
  have trim : ∀ s', Stp ⟨G, ρ ++ List.replicate (N.length - vs.length) .un, start N vs, H⟩ s' → Den K s' →
      Den K ⟨s'.G, out ρ s'.ρ, vs.map some, s'.H⟩ ∧ Stp ⟨G, ρ, vs.map some, H⟩ ⟨s'.G, out ρ s'.ρ, vs.map some, s'.H⟩ ∧ (∀ a, Owns ⟨s'.G, out ρ s'.ρ, vs.map some, s'.H⟩ a → Owns s' a) := by
    intro s' n d
    have bo : ∀ {i : Nat} {d : U}, ρ[i]? = some (Sl.bor d) → ∃ d', s'.ρ[i]? = some (Sl.bor d') ∧ s'.σ[i]? = (vs.map some)[i]? := fun {i d} e => by
      obtain ⟨d', h1, h2⟩ := n.bor i d (pad_get e)
      refine ⟨d', h1, h2.trans ?_⟩
      have : i < (vs.map some).length := by rw [List.length_map, ← hl]; exact lt_of_get e
      exact List.getElem?_append_left this
    have f : ∀ {i a}, OwnAt ⟨s'.G, out ρ s'.ρ, vs.map some, s'.H⟩ i a → OwnAt s' i a ∧ OwnAt ⟨G, ρ, vs.map some, H⟩ i a := fun {i a} ⟨⟨sl, x, e1, e2⟩, e3⟩ => by
      rcases out_get e1 with ⟨y, h1, h2⟩ | ⟨h1, h2⟩
      · obtain ⟨d', h3, h4⟩ := bo h1
        refine ⟨⟨⟨.bor d', d', h3, rfl⟩, h4.trans e3⟩, ⟨⟨.bor y, y, h1, rfl⟩, e3⟩⟩
      · rcases ar i sl h2 with ⟨y, rfl⟩ | ⟨y, rfl⟩
        · cases e2
        · exact absurd rfl (h1 y)
    have of : ∀ {i a}, OwnAt ⟨G, ρ, vs.map some, H⟩ i a → OwnAt ⟨G, ρ ++ List.replicate (N.length - vs.length) .un, start N vs, H⟩ i a := fun {i a} ⟨⟨sl, x, e1, e2⟩, e3⟩ => ⟨⟨sl, x, pad_get e1, e2⟩, pad_get e3⟩
    have no : ∀ {a}, ¬ Owns ⟨G, ρ, vs.map some, H⟩ a → ¬ Owns ⟨G, ρ ++ List.replicate (N.length - vs.length) .un, start N vs, H⟩ a := fun {a} h ⟨i, ⟨sl, x, e1, e2⟩, e3⟩ => h ⟨i, ⟨sl, x, get_pad e1 (by rintro rfl; cases e2), e2⟩, get_pad e3 nofun⟩
    refine ⟨⟨d.sub, ?_, fun i x e => ?_, fun i sl x e1 e2 => ?_, fun i j a h1 h2 => d.dis i j a (f h1).1 (f h2).1⟩, ⟨n.sub, fun a o e h => n.fr a o e (no h), n.dom, fun a ⟨i, h⟩ => .inl ⟨i, (f h).2⟩, fun a n1 n2 e => n.gfr a n1 (no n2) e, fun i x e => ?_⟩, fun a ⟨i, h⟩ => ⟨i, (f h).1⟩⟩
    · show (vs.map some).length = (out ρ s'.ρ).length
      rw [out_length, List.length_map, hl]
    · rcases out_get e with ⟨y, h1, h2⟩ | ⟨h1, h2⟩
      · obtain ⟨d', h3, h4⟩ := bo h1
        rcases h2 with h2 | ⟨h2, _⟩
        · rw [h3] at h2
          cases h2
        · rw [h3] at h2
          cases h2
      · obtain ⟨v, e1, e2⟩ := D.val i x h2
        exact ⟨v, e1, At.mono n.sub _ _ e2⟩
    · rcases out_get e1 with ⟨y, h1, h2⟩ | ⟨h1, h2⟩
      · obtain ⟨d', h3, h4⟩ := bo h1
        have : sl = .bor d' := by
          rcases h2 with h2 | ⟨h2, _⟩
          · rw [h3] at h2
            exact (Option.some.inj h2).symm
          · rw [h3] at h2
            cases h2
        subst this
        cases e2
        obtain ⟨a, o, h5, h6⟩ := d.own i _ _ h3 rfl
        exact ⟨a, o, h4.symm.trans h5, h6⟩
      · rcases ar i sl h2 with ⟨y, rfl⟩ | ⟨y, rfl⟩
        · cases e2
        · exact absurd rfl (h1 y)
    · obtain ⟨d', h3, h4⟩ := bo e
      refine ⟨d', ?_, rfl⟩
      cases q : (out ρ s'.ρ)[i]? with
      | none =>
        rw [List.getElem?_eq_none_iff, out_length] at q
        have : i < ρ.length := lt_of_get e
        omega
      | some y =>
        rcases out_get q with ⟨z, h1, h2⟩ | ⟨h1, h2⟩
        · rcases h2 with h2 | ⟨h2, _⟩
          · rw [h3] at h2
            exact congrArg some (Option.some.inj h2).symm
          · rw [h3] at h2
            cases h2
        · rw [e] at h2
          cases h2
          exact absurd rfl (h1 x)
  refine hb ρ _ _ hl hR ⟨G, ρ ++ List.replicate (N.length - vs.length) .un, start N vs, H⟩ _ rfl s0 (fun cls dd e s' n d ok x => ?_) ⟨fun s' n d q => ?_, fun v av s' n d ok q => ?_, fun s' n d q => q.elim, fun s' n d q => q.elim⟩
  · obtain ⟨t1, t2, _⟩ := trim s' n d
    exact x cls dd ⟨s'.G, out ρ s'.ρ, vs.map some, s'.H⟩ rfl rfl t1 t2 ok
  · obtain ⟨t1, t2, _⟩ := trim s' n d
    exact q .non ⟨s'.G, out ρ s'.ρ, vs.map some, s'.H⟩ rfl rfl t1 t2 trivial At.non
  · obtain ⟨t1, t2, t3⟩ := trim s' n d
    obtain ⟨q1, q⟩ := q
    refine q v ⟨s'.G, out ρ s'.ρ, vs.map some, s'.H⟩ rfl rfl t1 t2 q1 ?_
    cases av with
    | dt z => exact ok
    | sl i => exact q1.elim
    | own z =>
      obtain ⟨a, o, h1, h2, h3, h4, h5, h6⟩ := ok
      refine ⟨a, o, h1, h2, h3, h4, fun h => h5 (t3 a h), ?_⟩
      rcases h6 with h | ⟨i, ⟨sl, x, e1, e2⟩, e3⟩
      · exact .inl h
      · exact .inr ⟨i, ⟨sl, x, get_pad e1 (by rintro rfl; cases e2), e2⟩, get_pad e3 nofun⟩
/-! ### calls -/
inductive Arg where
  | va (d : U) | bo (i : Nat) (d : U)
def Arg.slot : Arg → Sl
  | .va d => .val d
  | .bo _ d => .bor d
/-- operands as arguments: data, own objects frozen, own objects lent -/
inductive Pas : Sls → List Av → List Arg → Sls → Prop
  | nil {ρ : Sls} : Pas ρ [] [] ρ
  | dt {ρ ρ' : Sls} {d : U} {as : List Av} {gs : List Arg} : Pas ρ as gs ρ' → Pas ρ (.dt d :: as) (.va d :: gs) ρ'
  | va {ρ ρ' : Sls} {i : Nat} {d : U} {as : List Av} {gs : List Arg} : ρ[i]? = some (.val d) → Pas ρ as gs ρ' → Pas ρ (.sl i :: as) (.va d :: gs) ρ'
  | fz {ρ ρ' : Sls} {i : Nat} {d : U} {as : List Av} {gs : List Arg} : ρ[i]? = some (.own d) → Pas (ρ.set i (.val d)) as gs ρ' → Pas ρ (.sl i :: as) (.va d :: gs) ρ'
  | bo {ρ ρ' : Sls} {i : Nat} {sl : Sl} {d : U} {as : List Av} {gs : List Arg} : Pas ρ as gs ρ' → ρ'[i]? = some sl → sl.cell = some d → Pas ρ (.sl i :: as) (.bo i d :: gs) ρ'
inductive ArgsOk (K : PySem.W.Frag) (s : Sta) : List V → List Arg → Prop
  | nil : ArgsOk K s [] []
  | va {v : V} {d : U} {vs : List V} {gs : List Arg} : At K s.G v d → ArgsOk K s vs gs → ArgsOk K s (v :: vs) (.va d :: gs)
  | bo {v : V} {i : Nat} {sl : Sl} {d : U} {vs : List V} {gs : List Arg} : s.σ[i]? = some (some v) → s.ρ[i]? = some sl → sl.cell = some d → ArgsOk K s vs gs → ArgsOk K s (v :: vs) (.bo i d :: gs)
theorem Pas.run : ∀ {ρ ρ' : Sls} {as : List Av} {gs : List Arg}, Pas ρ as gs ρ' → ∀ {s : Sta} {vs : List V}, s.ρ = ρ → Den K s → AvsOk K s vs as → ∃ s2, s2.ρ = ρ' ∧ s2.H = s.H ∧ Nxt K s s2 ∧ ArgsOk K s2 vs gs
  | _, _, _, _, .nil, s, _, e, D, .nil => ⟨s, e, rfl, Nxt.refl D, .nil⟩
  | _, _, _, _, .dt f, s, _, e, D, .cons _ h t => by
    obtain ⟨s2, e1, e2, n, q⟩ := Pas.run f e D t
    exact ⟨s2, e1, e2, n, .va (At.mono n.stp.sub _ _ h) q⟩
  | _, _, _, _, .va (i := i) e0 f, s, _, e, D, .cons _ h t => by
    subst e
    obtain ⟨s2, e1, e2, n, q⟩ := Pas.run f rfl D t
    have h : s.σ[i]? = some (some _) := h
    obtain ⟨v, h1, h2⟩ := D.val i _ e0
    rw [h] at h1
    cases h1
    exact ⟨s2, e1, e2, n, .va (At.mono n.stp.sub _ _ h2) q⟩
  | _, _, _, _, .fz (i := i) e0 f, s, _, e, D, .cons _ h t => by
    subst e
    obtain ⟨G, n, sub, v, h1, h2⟩ := freeze_slot D e0
    obtain ⟨s2, e1, e2, n2, q⟩ := Pas.run f (s := { s with G := G, ρ := s.ρ.set i _ }) rfl n.den (AvsOk.next n t)
    have h : s.σ[i]? = some (some _) := h
    rw [h] at h1
    cases h1
    exact ⟨s2, e1, e2, n.trans n2, .va (At.mono n2.stp.sub _ _ h2) q⟩
  | _, _, _, _, .bo (i := i) f e1 e2, s, _, e, D, .cons _ h t => by
    obtain ⟨s2, e3, e4, n, q⟩ := Pas.run f e D t
    have h : s.σ[i]? = some (some _) := h
    exact ⟨s2, e3, e4, n, .bo (by rw [n.slots]; exact h) (by rw [e3]; exact e1) e2 q⟩
/-- no object is lent twice -/
def sep : List Arg → Bool
  | [] => true
  | .va _ :: r => sep r
  | .bo i _ :: r => !(r.any fun g => match g with | .bo j _ => j == i | .va _ => false) && sep r
theorem sep_ix : ∀ {gs : List Arg} {p q i : Nat} {d e : U}, sep gs = true → gs[p]? = some (.bo i d) → gs[q]? = some (.bo i e) → p = q
  | [], _, _, _, _, _, _, h, _ => by simp at h
  | .va _ :: r, 0, _, _, _, _, _, h, _ => by simp at h
  | .va _ :: r, _ + 1, 0, _, _, _, _, _, h => by simp at h
  | .va _ :: r, p + 1, q + 1, _, _, _, s, h1, h2 => congrArg (· + 1) (sep_ix (gs := r) s (by simpa using h1) (by simpa using h2))
  | .bo j x :: r, 0, 0, _, _, _, _, _, _ => rfl
  | .bo j x :: r, 0, q + 1, i, d, e, s, h1, h2 => by
    have s : (!(r.any fun g => match g with | .bo k _ => k == j | .va _ => false) && sep r) = true := s
    rw [Bool.and_eq_true] at s
    have h1 : j = i := by
      have : some (Arg.bo j x) = some (Arg.bo i d) := h1
      cases this
      rfl
    subst h1
    have m := List.mem_of_getElem? (show r[q]? = some (.bo j e) by simpa using h2)
    have : (r.any fun g => match g with | .bo k _ => k == j | .va _ => false) = true := List.any_eq_true.mpr ⟨_, m, beq_self_eq_true j⟩
    rw [this] at s
    cases s.1
  | .bo j x :: r, p + 1, 0, i, d, e, s, h1, h2 => by
    have s : (!(r.any fun g => match g with | .bo k _ => k == j | .va _ => false) && sep r) = true := s
    rw [Bool.and_eq_true] at s
    have h2 : j = i := by
      have : some (Arg.bo j x) = some (Arg.bo i e) := h2
      cases this
      rfl
    subst h2
    have m := List.mem_of_getElem? (show r[p]? = some (.bo j d) by simpa using h1)
    have : (r.any fun g => match g with | .bo k _ => k == j | .va _ => false) = true := List.any_eq_true.mpr ⟨_, m, beq_self_eq_true j⟩
    rw [this] at s
    cases s.1
  | .bo j x :: r, p + 1, q + 1, i, d, e, s, h1, h2 => by
    have s : (!(r.any fun g => match g with | .bo k _ => k == j | .va _ => false) && sep r) = true := s
    rw [Bool.and_eq_true] at s
    exact congrArg (· + 1) (sep_ix (gs := r) s.2 (by simpa using h1) (by simpa using h2))
/-- an own or borrowed slot has another content -/
def setC (ρ : Sls) (i : Nat) (d : U) : Sls := match ρ[i]? with
  | some (.own _) => ρ.set i (.own d)
  | some (.bor _) => ρ.set i (.bor d)
  | _ => ρ
/-- the caller's slots behind a call -/
def upds : Sls → List Arg → Sls → Sls
  | ρ, .va _ :: gs, _ :: r => upds ρ gs r
  | ρ, .bo i _ :: gs, .bor d :: r => upds (setC ρ i d) gs r
  | ρ, .bo _ _ :: gs, _ :: r => upds ρ gs r
  | ρ, _, _ => ρ
theorem setC_length (ρ : Sls) (i : Nat) (d : U) : (setC ρ i d).length = ρ.length := by
  unfold setC
  split <;> first | rw [List.length_set] | rfl
theorem setC_get {ρ : Sls} {i j : Nat} {d : U} {x : Sl} (h : (setC ρ i d)[j]? = some x) : (ρ[j]? = some x ∧ (j ≠ i ∨ x.cell = none)) ∨ (j = i ∧ x.cell = some d ∧ ∃ y, ρ[i]? = some y ∧ ((x = .own d ∧ ∃ z, y = .own z) ∨ (x = .bor d ∧ ∃ z, y = .bor z))) := by
  unfold setC at h
  split at h
  · rename_i z e
    rcases get_set h with ⟨rfl, rfl, _⟩ | ⟨n, h⟩
    · exact .inr ⟨rfl, rfl, _, e, .inl ⟨rfl, z, rfl⟩⟩
    · exact .inl ⟨h, .inl n⟩
  · rename_i z e
    rcases get_set h with ⟨rfl, rfl, _⟩ | ⟨n, h⟩
    · exact .inr ⟨rfl, rfl, _, e, .inr ⟨rfl, z, rfl⟩⟩
    · exact .inl ⟨h, .inl n⟩
  · rename_i n1 n2
    refine .inl ⟨h, ?_⟩
    by_cases q : j = i
    · subst q
      right
      cases x with
      | own z => exact absurd h (n1 z)
      | bor z => exact absurd h (n2 z)
      | _ => rfl
    · exact .inl q
/-- where the content of a slot behind a call comes from -/
theorem upds_get : ∀ {gs : List Arg} {ρ r : Sls} {j : Nat} {x : Sl}, (upds ρ gs r)[j]? = some x →
    (∃ (p : Nat) (z d : U), gs[p]? = some (Arg.bo j z) ∧ r[p]? = some (Sl.bor d) ∧ x.cell = some d ∧ ∃ y, ρ[j]? = some y ∧ y.cell.isSome = true ∧ ((∃ u, x = .bor u) ↔ ∃ u, y = .bor u)) ∨ (ρ[j]? = some x ∧ (x.cell.isSome = true → ∀ (p : Nat) (z d : U), gs[p]? = some (Arg.bo j z) → r[p]? ≠ some (Sl.bor d)))
  | [], ρ, r, j, x, h => by
    have h : ρ[j]? = some x := by cases r <;> exact h
    exact .inr ⟨h, fun _ p z d e => by simp at e⟩
  | .va a :: gs, ρ, [], j, x, h => .inr ⟨h, fun _ p z d _ e => by simp at e⟩
  | .bo i a :: gs, ρ, [], j, x, h => .inr ⟨h, fun _ p z d _ e => by simp at e⟩
  | .va a :: gs, ρ, y :: r, j, x, h => by
    rcases upds_get (gs := gs) (ρ := ρ) (r := r) h with ⟨p, z, d, h1, h2, h3⟩ | ⟨h1, h2⟩
    · exact .inl ⟨p + 1, z, d, by simpa using h1, by simpa using h2, h3⟩
    · refine .inr ⟨h1, fun c p z d e1 e2 => ?_⟩
      cases p with
      | zero => simp at e1
      | succ p => exact h2 c p z d (by simpa using e1) (by simpa using e2)
  | .bo i a :: gs, ρ, .bor d0 :: r, j, x, h => by
    have h : (upds (setC ρ i d0) gs r)[j]? = some x := h
    rcases upds_get (gs := gs) (ρ := setC ρ i d0) (r := r) h with ⟨p, z, d, h1, h2, h3, y, h4, h5, h6⟩ | ⟨h1, h2⟩
    · refine .inl ⟨p + 1, z, d, by simpa using h1, by simpa using h2, h3, ?_⟩
      rcases setC_get h4 with ⟨h7, _⟩ | ⟨rfl, h7, w, h8, h9⟩
      · exact ⟨y, h7, h5, h6⟩
      · refine ⟨w, h8, ?_, ?_⟩
        · rcases h9 with ⟨_, u, rfl⟩ | ⟨_, u, rfl⟩ <;> rfl
        · rw [h6]
          rcases h9 with ⟨rfl, u, rfl⟩ | ⟨rfl, u, rfl⟩
          · exact ⟨fun ⟨u, e⟩ => (nomatch e), fun ⟨u, e⟩ => (nomatch e)⟩
          · exact ⟨fun _ => ⟨u, rfl⟩, fun _ => ⟨_, rfl⟩⟩
    · rcases setC_get h1 with ⟨h7, h8⟩ | ⟨rfl, h7, w, h8, h9⟩
      · refine .inr ⟨h7, fun c p z d e1 e2 => ?_⟩
        cases p with
        | zero =>
          have e1 : some (Arg.bo i a) = some (Arg.bo j z) := e1
          cases e1
          rcases h8 with h8 | h8
          · exact h8 rfl
          · rw [h8] at c
            cases c
        | succ p => exact h2 c p z d (by simpa using e1) (by simpa using e2)
      · refine .inl ⟨0, a, d0, rfl, rfl, h7, w, h8, ?_, ?_⟩
        · rcases h9 with ⟨_, u, rfl⟩ | ⟨_, u, rfl⟩ <;> rfl
        · rcases h9 with ⟨rfl, u, rfl⟩ | ⟨rfl, u, rfl⟩
          · exact ⟨fun ⟨u, e⟩ => (nomatch e), fun ⟨u, e⟩ => (nomatch e)⟩
          · exact ⟨fun _ => ⟨u, rfl⟩, fun _ => ⟨_, rfl⟩⟩
  | .bo i a :: gs, ρ, .un :: r, j, x, h => by
    rcases upds_get (gs := gs) (ρ := ρ) (r := r) h with ⟨p, z, d, h1, h2, h3⟩ | ⟨h1, h2⟩
    · exact .inl ⟨p + 1, z, d, by simpa using h1, by simpa using h2, h3⟩
    · refine .inr ⟨h1, fun c p z d e1 e2 => ?_⟩
      cases p with
      | zero => simp at e2
      | succ p => exact h2 c p z d (by simpa using e1) (by simpa using e2)
  | .bo i a :: gs, ρ, .val _ :: r, j, x, h => by
    rcases upds_get (gs := gs) (ρ := ρ) (r := r) h with ⟨p, z, d, h1, h2, h3⟩ | ⟨h1, h2⟩
    · exact .inl ⟨p + 1, z, d, by simpa using h1, by simpa using h2, h3⟩
    · refine .inr ⟨h1, fun c p z d e1 e2 => ?_⟩
      cases p with
      | zero => simp at e2
      | succ p => exact h2 c p z d (by simpa using e1) (by simpa using e2)
  | .bo i a :: gs, ρ, .own _ :: r, j, x, h => by
    rcases upds_get (gs := gs) (ρ := ρ) (r := r) h with ⟨p, z, d, h1, h2, h3⟩ | ⟨h1, h2⟩
    · exact .inl ⟨p + 1, z, d, by simpa using h1, by simpa using h2, h3⟩
    · refine .inr ⟨h1, fun c p z d e1 e2 => ?_⟩
      cases p with
      | zero => simp at e2
      | succ p => exact h2 c p z d (by simpa using e1) (by simpa using e2)
theorem upds_length : ∀ (gs : List Arg) (ρ r : Sls), (upds ρ gs r).length = ρ.length
  | [], ρ, [] => rfl
  | [], ρ, _ :: _ => rfl
  | .va _ :: gs, ρ, [] => rfl
  | .bo _ _ :: gs, ρ, [] => rfl
  | .va _ :: gs, ρ, _ :: r => upds_length gs ρ r
  | .bo i _ :: gs, ρ, .bor d :: r => (upds_length gs (setC ρ i d) r).trans (setC_length ρ i d)
  | .bo _ _ :: gs, ρ, .un :: r => upds_length gs ρ r
  | .bo _ _ :: gs, ρ, .val _ :: r => upds_length gs ρ r
  | .bo _ _ :: gs, ρ, .own _ :: r => upds_length gs ρ r
theorem setC_bor {ρ : Sls} {i j : Nat} {d x : U} (h : ρ[j]? = some (.bor x)) : ∃ y, (setC ρ i d)[j]? = some (.bor y) := by
  unfold setC
  split
  · rename_i z e
    by_cases q : i = j
    · subst q
      rw [h] at e
      cases e
    · exact ⟨x, by rw [List.getElem?_set_ne q]; exact h⟩
  · rename_i z e
    by_cases q : i = j
    · subst q
      exact ⟨d, List.getElem?_set_self (lt_of_get h)⟩
    · exact ⟨x, by rw [List.getElem?_set_ne q]; exact h⟩
  · exact ⟨x, h⟩
theorem upds_bor : ∀ (gs : List Arg) {ρ r : Sls} {j : Nat} {x : U}, ρ[j]? = some (.bor x) → ∃ y, (upds ρ gs r)[j]? = some (.bor y)
  | [], _, [], _, x, h => ⟨x, h⟩
  | [], _, _ :: _, _, x, h => ⟨x, h⟩
  | .va _ :: gs, _, [], _, x, h => ⟨x, h⟩
  | .bo _ _ :: gs, _, [], _, x, h => ⟨x, h⟩
  | .va _ :: gs, ρ, _ :: r, _, _, h => upds_bor gs (r := r) h
  | .bo i _ :: gs, ρ, .bor d :: r, _, _, h => by
    obtain ⟨y, e⟩ := setC_bor (i := i) (d := d) h
    exact upds_bor gs (r := r) e
  | .bo _ _ :: gs, ρ, .un :: r, _, _, h => upds_bor gs (r := r) h
  | .bo _ _ :: gs, ρ, .val _ :: r, _, _, h => upds_bor gs (r := r) h
  | .bo _ _ :: gs, ρ, .own _ :: r, _, _, h => upds_bor gs (r := r) h
theorem ArgsOk.get {s : Sta} : ∀ {vs : List V} {gs : List Arg} {p : Nat} {g : Arg}, ArgsOk K s vs gs → gs[p]? = some g → ∃ v, vs[p]? = some v ∧ match g with
    | .va d => At K s.G v d
    | .bo i d => s.σ[i]? = some (some v) ∧ ∃ sl, s.ρ[i]? = some sl ∧ sl.cell = some d
  | _, _, _, _, .nil, e => by simp at e
  | _, _, 0, g, .va h t, e => by
    have e : some (Arg.va _) = some g := e
    cases e
    exact ⟨_, rfl, h⟩
  | _, _, 0, g, .bo h1 h2 h3 t, e => by
    have e : some (Arg.bo _ _) = some g := e
    cases e
    exact ⟨_, rfl, h1, _, h2, h3⟩
  | _, _, p + 1, g, .va h t, e => by
    obtain ⟨v, h1, h2⟩ := ArgsOk.get t (p := p) (by simpa using e)
    exact ⟨v, by simpa using h1, h2⟩
  | _, _, p + 1, g, .bo _ _ _ t, e => by
    obtain ⟨v, h1, h2⟩ := ArgsOk.get t (p := p) (by simpa using e)
    exact ⟨v, by simpa using h1, h2⟩
theorem ArgsOk.length {s : Sta} : ∀ {vs : List V} {gs : List Arg}, ArgsOk K s vs gs → vs.length = gs.length
  | _, _, .nil => rfl
  | _, _, .va _ t => congrArg (· + 1) (ArgsOk.length t)
  | _, _, .bo _ _ _ t => congrArg (· + 1) (ArgsOk.length t)
/-- the callee's state at its entry -/
theorem callee_den {s : Sta} {vs : List V} {gs : List Arg} (D : Den K s) (ok : ArgsOk K s vs gs) (hs : sep gs = true) :
    Den K ⟨s.G, gs.map Arg.slot, vs.map some, s.H⟩ ∧ Args (gs.map Arg.slot) ∧ (∀ p a, OwnAt ⟨s.G, gs.map Arg.slot, vs.map some, s.H⟩ p a → ∃ i d, gs[p]? = some (.bo i d) ∧ OwnAt s i a) := by
  have f : ∀ p a, OwnAt ⟨s.G, gs.map Arg.slot, vs.map some, s.H⟩ p a → ∃ i d, gs[p]? = some (.bo i d) ∧ OwnAt s i a := by
    rintro p a ⟨⟨sl, d, e1, e2⟩, e3⟩
    have e1 : (gs.map Arg.slot)[p]? = some sl := e1
    rw [List.getElem?_map] at e1
    cases e : gs[p]? with
    | none => rw [e] at e1; cases e1
    | some g =>
      rw [e] at e1
      have e1 : g.slot = sl := Option.some.inj e1
      cases g with
      | va x =>
        subst e1
        cases e2
      | bo i x =>
        obtain ⟨v, h1, h2, sl', h3, h4⟩ := ok.get e
        have e3 : (vs.map some)[p]? = some (some (.ref a)) := e3
        rw [List.getElem?_map, h1] at e3
        have e3 : v = .ref a := Option.some.inj (Option.some.inj e3)
        subst e3
        exact ⟨i, x, rfl, ⟨sl', x, h3, h4⟩, h2⟩
  refine ⟨⟨D.sub, ?_, fun p d e => ?_, fun p sl d e1 e2 => ?_, fun p q a h1 h2 => ?_⟩, fun p sl e => ?_, f⟩
  · show (vs.map some).length = (gs.map Arg.slot).length
    rw [List.length_map, List.length_map]
    exact ok.length
  · have e1 : (gs.map Arg.slot)[p]? = some (.val d) := e
    rw [List.getElem?_map] at e1
    cases e : gs[p]? with
    | none => rw [e] at e1; cases e1
    | some g =>
      rw [e] at e1
      have e1 : g.slot = .val d := Option.some.inj e1
      cases g with
      | va x =>
        cases e1
        obtain ⟨v, h1, h2⟩ := ok.get e
        exact ⟨v, by show (vs.map some)[p]? = _; rw [List.getElem?_map, h1]; rfl, h2⟩
      | bo i x => cases e1
  · have e1 : (gs.map Arg.slot)[p]? = some sl := e1
    rw [List.getElem?_map] at e1
    cases e : gs[p]? with
    | none => rw [e] at e1; cases e1
    | some g =>
      rw [e] at e1
      have e1 : g.slot = sl := Option.some.inj e1
      cases g with
      | va x =>
        subst e1
        cases e2
      | bo i x =>
        subst e1
        cases e2
        obtain ⟨v, h1, h2, sl', h3, h4⟩ := ok.get e
        obtain ⟨a, o, h5, h6⟩ := D.own i sl' _ h3 h4
        rw [h2] at h5
        cases h5
        exact ⟨a, o, by show (vs.map some)[p]? = _; rw [List.getElem?_map, h1]; rfl, h6⟩
  · obtain ⟨i, x, g1, o1⟩ := f p a h1
    obtain ⟨j, y, g2, o2⟩ := f q a h2
    obtain rfl := D.dis i j a o1 o2
    exact sep_ix hs g1 g2
  · rw [List.getElem?_map] at e
    cases q : gs[p]? with
    | none => rw [q] at e; cases e
    | some g =>
      rw [q] at e
      have e : g.slot = sl := Option.some.inj e
      cases g with
      | va x => exact .inl ⟨x, e.symm⟩
      | bo i x => exact .inr ⟨x, e.symm⟩
/-- the caller's state behind the call -/
theorem caller_den {s s3 : Sta} {vs : List V} {gs : List Arg} (D : Den K s) (ok : ArgsOk K s vs gs) (hs : sep gs = true) (e3 : s3.σ = vs.map some) (D3 : Den K s3) (n3 : Stp ⟨s.G, gs.map Arg.slot, vs.map some, s.H⟩ s3) :
    Nxt K s ⟨s3.G, upds s.ρ gs s3.ρ, s.σ, s3.H⟩ ∧ (∀ a, Owns ⟨s3.G, upds s.ρ gs s3.ρ, s.σ, s3.H⟩ a → Owns s a) ∧ (∀ a, Owns ⟨s.G, gs.map Arg.slot, vs.map some, s.H⟩ a → Owns s3 a) := by
  obtain ⟨Dc, ar, f⟩ := callee_den D ok hs
  have back : ∀ {j a}, OwnAt ⟨s3.G, upds s.ρ gs s3.ρ, s.σ, s3.H⟩ j a → OwnAt s j a := fun {j a} ⟨⟨sl, d, e1, e2⟩, e4⟩ => by
    rcases upds_get e1 with ⟨p, z, d', h1, h2, h3, y, h4, h5, _⟩ | ⟨h1, _⟩
    · cases q : y.cell with
      | none => rw [q] at h5; cases h5
      | some w => exact ⟨⟨y, w, h4, q⟩, e4⟩
    · exact ⟨⟨sl, d, h1, e2⟩, e4⟩
  have no : ∀ {a}, ¬ Owns s a → ¬ Owns ⟨s.G, gs.map Arg.slot, vs.map some, s.H⟩ a := fun {a} h ⟨p, hp⟩ => by
    obtain ⟨i, d, _, o⟩ := f p a hp
    exact h ⟨i, o⟩
  have lent : ∀ {p j : Nat} {z : U} {a : Addr}, gs[p]? = some (Arg.bo j z) → OwnAt s j a → OwnAt ⟨s.G, gs.map Arg.slot, vs.map some, s.H⟩ p a := fun {p j z a} g ⟨_, o2⟩ => by
    obtain ⟨v, h1, h2, sl', h3, h4⟩ := ok.get g
    rw [o2] at h2
    cases h2
    exact ⟨⟨.bor z, z, by show (gs.map Arg.slot)[p]? = _; rw [List.getElem?_map, g]; rfl, rfl⟩, by show (vs.map some)[p]? = _; rw [List.getElem?_map, h1]; rfl⟩
  have bor3 : ∀ {p j : Nat} {z : U}, gs[p]? = some (Arg.bo j z) → ∃ d', s3.ρ[p]? = some (Sl.bor d') ∧ s3.σ[p]? = (vs.map some)[p]? := fun {p j z} g =>
    n3.bor p z (by show (gs.map Arg.slot)[p]? = _; rw [List.getElem?_map, g]; rfl)
  refine ⟨⟨⟨n3.sub, fun a o e h => n3.fr a o e (no h), n3.dom, fun a ⟨j, h⟩ => .inl ⟨j, back h⟩, fun a n1 n2 e => n3.gfr a n1 (no n2) e, fun j x e => ?_⟩, ⟨D3.sub, ?_, fun j d e => ?_, fun j sl d e1 e2 => ?_, fun i j a h1 h2 => D.dis i j a (back h1) (back h2)⟩, rfl⟩, fun a ⟨j, h⟩ => ⟨j, back h⟩, fun a ⟨p, h⟩ => ?_⟩
  · obtain ⟨y, h⟩ := upds_bor gs (r := s3.ρ) e
    exact ⟨y, h, rfl⟩
  · show s.σ.length = (upds s.ρ gs s3.ρ).length
    rw [upds_length]
    exact D.len
  · rcases upds_get e with ⟨p, z, d', h1, h2, h3, _⟩ | ⟨h1, _⟩
    · cases h3
    · obtain ⟨v, h2, h3⟩ := D.val j d h1
      exact ⟨v, h2, At.mono n3.sub _ _ h3⟩
  · rcases upds_get e1 with ⟨p, z, d', h1, h2, h3, y, h4, h5, _⟩ | ⟨h1, h2⟩
    · rw [e2] at h3
      cases h3
      obtain ⟨a, o, h6, h7⟩ := D3.own p _ d h2 rfl
      obtain ⟨v, h8, h9, _⟩ := ok.get h1
      rw [e3, List.getElem?_map, h8] at h6
      have h6 : v = .ref a := Option.some.inj (Option.some.inj h6)
      subst h6
      exact ⟨a, o, h9, h7⟩
    · obtain ⟨a, o, h3, h4, h5, h6⟩ := D.own j sl d h1 e2
      have oa : OwnAt s j a := ⟨⟨sl, d, h1, e2⟩, h3⟩
      have nc : ¬ Owns ⟨s.G, gs.map Arg.slot, vs.map some, s.H⟩ a := fun ⟨p, hp⟩ => by
        obtain ⟨i, x, g, o'⟩ := f p a hp
        obtain rfl := D.dis i j a o' oa
        obtain ⟨d', h7, _⟩ := bor3 g
        exact h2 (by rw [e2]; rfl) p x d' g h7
      exact ⟨a, o, h3, n3.gfr a (fun q => by rw [show s.H a = some o from h5] at q; cases q) nc h4, n3.fr a o h5 nc, h6.mono n3.sub⟩
  · obtain ⟨i, d, g, o⟩ := f p a h
    obtain ⟨d', h1, h2⟩ := bor3 g
    obtain ⟨_, h3⟩ := h
    exact ⟨p, ⟨.bor d', d', h1, rfl⟩, h2.trans h3⟩
/-- what a call asks -/
def CallU (R : RU) (avs : List Av) (ρ : Sls) (Q : Av → Sls → Prop) (X : Er → Sls → Prop) : Prop := ∃ gs ρ1, Pas ρ avs gs ρ1 ∧ sep gs = true ∧
  ∀ (Q' : Av → Sls → Prop) (X' : Er → Sls → Prop), (∀ a r, Q a (upds ρ1 gs r) → Q' a r) → (∀ e r, X e (upds ρ1 gs r) → X' e r) → R (gs.map Arg.slot) Q' X'
theorem CallU.run {R : RU} {avs : List Av} {Q : Av → Sls → Prop} {X : Er → Sls → Prop} {s : Sta} {vs : List V} {Q0 : VK} {E : XK} (h : CallU R avs s.ρ Q X) (D : Den K s) (ok : AvsOk K s vs avs) (k : Cnt K s Q Q0)
    (x : ∀ cls dd e s', Stp s s' → Den K s' → s'.σ = s.σ → ErOk K s' cls dd e → X e s'.ρ → E cls dd s'.H) : spU K R vs s.H Q0 E := by
  obtain ⟨gs, ρ1, hp, hs, hR⟩ := h
  obtain ⟨s2, e1, e2, n2, ok2⟩ := hp.run rfl D ok
  subst e1
  rw [← e2]
  obtain ⟨Dc, ar, f⟩ := callee_den n2.den ok2 hs
  refine ⟨s2.G, gs.map Arg.slot, Dc, ar, hR _ _ (fun a r q v s3 h1 h2 D3 n3 na ok3 => ?_) fun e r q cls dd s3 h1 h2 D3 n3 ok3 => ?_⟩
  · subst h2
    obtain ⟨n4, b1, b2⟩ := caller_den n2.den ok2 hs h1 D3 n3
    refine (k.lift n2) v a ⟨s3.G, upds s2.ρ gs s3.ρ, s2.σ, s3.H⟩ n4 ?_ q
    cases a with
    | dt d => exact ok3
    | sl i => exact na.elim
    | own d =>
      obtain ⟨b, o, h3, h4, h5, h6, h7, h8⟩ := ok3
      have h9 : s2.H b = none := by
        rcases h8 with h | h
        · exact h
        · exact absurd (b2 b h) h7
      refine ⟨b, o, h3, h4, h5, h6, fun z => ?_, .inl h9⟩
      exact (n2.den.free h9).2 (b1 b z)
  · subst h2
    obtain ⟨n4, b1, b2⟩ := caller_den n2.den ok2 hs h1 D3 n3
    exact x cls dd e ⟨s3.G, upds s2.ρ gs s3.ρ, s2.σ, s3.H⟩ (n2.trans n4).stp n4.den (n4.slots.trans n2.slots) ok3 q
variable {X : Er → Sls → Prop} {ρ : Sls}
/-- f(..), nothing is raised -/
theorem we_call {R : RU} {t : TA} {Q : Av → Sls → Prop} (h : WA K W t ρ (fun as ρ1 => CallU R as ρ1 Q (fun _ _ => False)) X) : WE K W (tCall (spU K R) [] E0 t) ρ Q X := by
  rintro s Q0 rfl D x k
  refine h s _ rfl D x fun vs as s1 n1 ok q => ?_
  rw [List.append_nil]
  exact q.run n1.den ok (k.lift n1) fun _ _ _ _ _ _ _ _ z => z.elim
/-- f(..), what is raised is wished for at the slots -/
theorem we_callS {R : RU} {t : TA} {Q : Av → Sls → Prop} (h : WA K W t ρ (fun as ρ1 => CallU R as ρ1 Q X) X) : WE K W (tCallS (spU K R) (fun σ cls dd H => W cls dd σ H) t) ρ Q X := by
  rintro s Q0 rfl D x k
  refine h s _ rfl D x fun vs as s1 n1 ok q => ?_
  refine q.run n1.den ok (k.lift n1) fun cls dd e s' n d eσ ok' z => ?_
  have := (x.next n1.stp) cls dd e s' n d ok' z
  rw [eσ, n1.slots] at this
  exact this
end

/-! ### what is walked -/
section
variable {K : PySem.W.Frag} {W : Wx} {X : Er → Sls → Prop} {ρ : Sls} {P : Post}
def UWalk (K : PySem.W.Frag) (s : Sta) (J : It) (ds : List U) : Prop := ∃ (Gd : Hp → Prop) (Y : Nat → Hp → V → Hp → Prop), Walk J ds.length Gd Y ∧
  (∀ s', Stp s s' → Den K s' → Gd s'.H) ∧
  (∀ i x s' H', i < ds.length → Stp s s' → Den K s' → Y i s'.H x H' → ∃ s'' d, s''.ρ = s'.ρ ∧ s''.H = H' ∧ Nxt K s' s'' ∧ ds[i]? = some d ∧ At K s''.G x d)
def WI (K : PySem.W.Frag) (W : Wx) (wi : TI) (ρ : Sls) (Q : List U → Sls → Prop) (X : Er → Sls → Prop) : Prop :=
  ∀ (s : Sta) (R0 : It → Hp → Prop), s.ρ = ρ → Den K s → XOk K s W X → (∀ J ds s', Nxt K s s' → UWalk K s' J ds → Q ds s'.ρ → R0 J s'.H) → wi s.σ s.H R0
theorem uwalk_list {s : Sta} {a : Addr} {xs : List V} {ds : List U} (h : SqL K s.G a xs) (hd : AtAll K s.G xs ds) : UWalk K s (Itl K a) ds := by
  refine ⟨_, _, (hd.length ▸ walk_list (K := K) (a := a) (xs := xs)), fun s' n D => sql_same (n.sub.trans D.sub) h, fun i x s' H' hi n D y => ?_⟩
  obtain ⟨rfl, y⟩ := y
  obtain ⟨d, e, q⟩ := hd.get y
  exact ⟨s', d, rfl, rfl, Nxt.refl D, e, At.mono n.sub _ _ q⟩
theorem uwalk_tup {s : Sta} {a : Addr} {xs : List V} {ds : List U} (h : SqT K s.G a xs) (hd : AtAll K s.G xs ds) : UWalk K s (Itt K a) ds := by
  refine ⟨_, _, (hd.length ▸ walk_tup (K := K) (a := a) (xs := xs)), fun s' n D => sqt_same (n.sub.trans D.sub) h, fun i x s' H' hi n D y => ?_⟩
  obtain ⟨rfl, y⟩ := y
  obtain ⟨d, e, q⟩ := hd.get y
  exact ⟨s', d, rfl, rfl, Nxt.refl D, e, At.mono n.sub _ _ q⟩
theorem frz1 {s : Sta} {a : Av} {d : U} {ρ2 : Sls} {v : V} (f : Frz s.ρ [a] [d] ρ2) (fl : a.flat) (D : Den K s) (ok : AvOk K s s v a) : ∃ s2, s2.ρ = ρ2 ∧ s2.H = s.H ∧ Nxt K s s2 ∧ At K s2.G v d := by
  obtain ⟨s2, e1, e2, n, h⟩ := f.run rfl D (.cons fl ok .nil)
  cases h with
  | cons h _ => exact ⟨s2, e1, e2, n, h⟩
theorem wi_list {te : TE} {Q : List U → Sls → Prop} (h : WE K W te ρ (fun a ρ1 => ∃ ds ρ2, Frz ρ1 [a.fl] [.lst ds] ρ2 ∧ Q ds ρ2) X) : WI K W (iList K te) ρ Q X := by
  rintro s R0 rfl D x k
  refine WE.flat (Q := fun a ρ1 => ∃ ds ρ2, Frz ρ1 [a] [.lst ds] ρ2 ∧ Q ds ρ2) h rfl D x fun v a s1 n f ok ⟨ds, ρ2, hf, q⟩ => ?_
  obtain ⟨s2, e1, e2, n2, hv⟩ := frz1 hf f n.den ok
  cases hv with
  | lst hs ha =>
    rw [← e2]
    exact ⟨_, rfl, ⟨_, SqL.of (n2.den.sub _ _ hs)⟩, k _ ds s2 (n.trans n2) (uwalk_list (SqL.of hs) ha) (by rw [e1]; exact q)⟩
theorem wi_tup {te : TE} {Q : List U → Sls → Prop} (h : WE K W te ρ (fun a ρ1 => ∃ ds ρ2, Frz ρ1 [a.fl] [.tup ds] ρ2 ∧ Q ds ρ2) X) : WI K W (iTup K te) ρ Q X := by
  rintro s R0 rfl D x k
  refine WE.flat (Q := fun a ρ1 => ∃ ds ρ2, Frz ρ1 [a] [.tup ds] ρ2 ∧ Q ds ρ2) h rfl D x fun v a s1 n f ok ⟨ds, ρ2, hf, q⟩ => ?_
  obtain ⟨s2, e1, e2, n2, hv⟩ := frz1 hf f n.den ok
  cases hv with
  | tup hs ha =>
    rw [← e2]
    exact ⟨_, rfl, ⟨_, sqt_same n2.den.sub hs⟩, k _ ds s2 (n.trans n2) (uwalk_tup hs ha) (by rw [e1]; exact q)⟩
def rgU (lo : Int) (n : Nat) : List U := (List.range n).map fun i => U.int (lo + (i : Nat))
theorem rgU_length {lo : Int} {n : Nat} : (rgU lo n).length = n := by unfold rgU; rw [List.length_map, List.length_range]
theorem rgU_get {lo : Int} {n k : Nat} {d : U} (h : (rgU lo n)[k]? = some d) : k < n ∧ d = .int (lo + (k : Nat)) := by
  unfold rgU at h
  rw [List.getElem?_map] at h
  cases e : (List.range n)[k]? with
  | none => rw [e] at h; cases h
  | some i =>
    rw [e] at h
    have l := lt_of_get e
    rw [List.length_range] at l
    rw [List.getElem?_range l] at e
    cases e
    exact ⟨l, (Option.some.inj h).symm⟩
theorem uwalk_range {s : Sta} {lo : Int} {n : Nat} : UWalk K s (Itr lo n) (rgU lo n) := by
  refine ⟨fun _ => True, YFn fun i => .int (lo + i), (by rw [rgU_length]; exact walk_range (lo := lo) (n := n)), fun _ _ _ => trivial, fun i x s' H' hi m D y => ?_⟩
  obtain ⟨rfl, rfl⟩ := y
  rw [rgU_length] at hi
  refine ⟨s', .int (lo + (i : Nat)), rfl, rfl, Nxt.refl D, ?_, .int _⟩
  unfold rgU
  rw [List.getElem?_map, List.getElem?_range hi]
  rfl
theorem avs1 {s : Sta} {vs : List V} {i : Int} (h : AvsOk K s vs [.dt (.int i)]) : vs = [.int i] := by
  cases h with
  | cons _ h t =>
    cases t
    rw [at_int h]
theorem avs2 {s : Sta} {vs : List V} {i j : Int} (h : AvsOk K s vs [.dt (.int i), .dt (.int j)]) : vs = [.int i, .int j] := by
  cases h with
  | cons _ h t =>
    rw [at_int h, avs1 t]
theorem wi_range1 {ta : TA} {Q : List U → Sls → Prop} (h : WA K W ta ρ (fun as ρ1 => ∃ j : Int, as = [.dt (.int j)] ∧ (-4000000000 ≤ j ∧ j ≤ 4000000000) ∧ Q (rgU 0 j.toNat) ρ1) X) : WI K W (iRng1 ta) ρ Q X := by
  rintro s R0 rfl D x k
  refine h s _ rfl D x fun vs as s1 n ok ⟨j, e, hj, q⟩ => ?_
  subst e
  obtain rfl := avs1 ok
  exact ⟨j, rfl, by omega, by omega, k _ _ s1 n uwalk_range q⟩
theorem wi_range2 {ta : TA} {Q : List U → Sls → Prop} (h : WA K W ta ρ (fun as ρ1 => ∃ i j : Int, as = [.dt (.int i), .dt (.int j)] ∧ (-4000000000 ≤ i ∧ i ≤ 4000000000 ∧ -4000000000 ≤ j ∧ j ≤ 4000000000) ∧ Q (rgU i (j - i).toNat) ρ1) X) : WI K W (iRng2 ta) ρ Q X := by
  rintro s R0 rfl D x k
  refine h s _ rfl D x fun vs as s1 n ok ⟨i, j, e, hj, q⟩ => ?_
  subst e
  obtain rfl := avs2 ok
  exact ⟨i, j, rfl, ⟨by omega, by omega, by omega, by omega⟩, k _ _ s1 n uwalk_range q⟩
/-! ### targets -/
def WG (K : PySem.W.Frag) (g : TG) (vs : List Nat) (d : U) (ρ : Sls) (N : Sls → Prop) : Prop :=
  ∀ (s : Sta) (v : V) (Q0 : L2.St → Hp → Prop), s.ρ = ρ → Den K s → At K s.G v d → (∀ s', Stp s s' → Den K s' → (∀ i, i ∉ vs → s'.σ[i]? = s.σ[i]?) → s'.σ.length = s.σ.length → N s'.ρ → Q0 s'.σ s'.H) → g v s.σ s.H Q0
def WGs (K : PySem.W.Frag) (g : TGs) (vs : List Nat) (ds : List U) (ρ : Sls) (N : Sls → Prop) : Prop :=
  ∀ (s : Sta) (us : List V) (Q0 : L2.St → Hp → Prop), s.ρ = ρ → Den K s → AtAll K s.G us ds → (∀ s', Stp s s' → Den K s' → (∀ i, i ∉ vs → s'.σ[i]? = s.σ[i]?) → s'.σ.length = s.σ.length → N s'.ρ → Q0 s'.σ s'.H) → g us s.σ s.H Q0
theorem wg_name {i : Nat} {vs : List Nat} {d : U} {N : Sls → Prop} (h : nb ρ i = true) (hi : i ∈ vs) (q : N (ρ.set i (.val d))) : WG K (gName i) vs d ρ N := by
  rintro s v Q0 rfl D hv k
  obtain ⟨a, b⟩ := put_val D h hv
  refine k _ a b (fun j hj => ?_) ?_ q
  · show (s.σ.set i _)[j]? = _
    rw [List.getElem?_set_ne (fun e => hj (by rw [← e]; exact hi))]
  · show (s.σ.set i _).length = _
    rw [List.length_set]
theorem wgs_nil {vs : List Nat} {N : Sls → Prop} (q : N ρ) : WGs K gNil vs [] ρ N := by
  rintro s us Q0 rfl D hv k
  cases hv
  exact ⟨rfl, k s (Stp.refl s) D (fun _ _ => rfl) rfl q⟩
theorem wgs_cons {t : TG} {u : TGs} {vs : List Nat} {d : U} {ds : List U} {N : Sls → Prop} (h : WG K t vs d ρ (fun ρ1 => WGs K u vs ds ρ1 N)) : WGs K (gCons t u) vs (d :: ds) ρ N := by
  rintro s us Q0 rfl D hv k
  cases hv with
  | cons hv ht =>
    refine ⟨_, _, rfl, h s _ _ rfl D hv fun s1 n1 D1 o1 l1 q1 => ?_⟩
    exact q1 s1 _ _ rfl D1 (AtAll.mono n1.sub _ _ ht) fun s2 n2 D2 o2 l2 q2 => k s2 (n1.trans n2) D2 (fun i hi => (o2 i hi).trans (o1 i hi)) (l2.trans l1) q2
theorem wg_tup {n : Nat} {t : TGs} {vs : List Nat} {d : U} {N : Sls → Prop} (h : ∃ ds, d = .tup ds ∧ ds.length = n ∧ WGs K t vs ds ρ N) : WG K (gTup K n t) vs d ρ N := by
  rintro s v Q0 rfl D hv k
  obtain ⟨ds, rfl, hl, h⟩ := h
  cases hv with
  | tup hs ha => exact ⟨_, _, rfl, sqt_same D.sub hs, by rw [ha.length]; exact hl, h s _ _ rfl D ha k⟩
theorem ws_asg {te : TE} {g : TG} {n : Nat} (h : WE K W te ρ (fun a ρ1 => ∃ d ρ2, Frz ρ1 [a.fl] [d] ρ2 ∧ WG K g (List.range n) d ρ2 P.nx) P.xc) : WS K W (tAsg te g) ρ P := by
  rintro s D rfl d x f
  refine WE.flat (Q := fun a ρ1 => ∃ d ρ2, Frz ρ1 [a] [d] ρ2 ∧ WG K g (List.range n) d ρ2 P.nx) h rfl d x fun v a s1 n1 fa ok ⟨z, ρ2, hf, q⟩ => ?_
  obtain ⟨s2, e1, e2, n2, hv⟩ := frz1 hf fa n1.den ok
  rw [← e2, ← n1.slots, ← n2.slots]
  exact q s2 v _ e1 n2.den hv fun s3 n3 D3 _ _ q3 => f.nx s3 ((n1.trans n2).stp.trans n3) D3 q3
/-! ### for -/
theorem ws_for {wi : TI} {g : TG} {tb : TS} (m : Nat) (h : WI K W wi ρ (fun ds ρ1 => ∃ Iv : Nat → Sls → Prop, Iv 0 ρ1 ∧
    (∀ (k : Nat) (d : U) (ρ2 : Sls), ds[k]? = some d → Iv k ρ2 → WG K g (List.range m) d ρ2 (fun ρ3 => WS K W tb ρ3 { P with nx := Iv (k + 1), ct := Iv (k + 1), bk := P.nx })) ∧ ∀ ρ2, Iv ds.length ρ2 → P.nx ρ2) P.xc) : WS K W (tFor wi g tb) ρ P := by
  rintro s D rfl d x f
  refine h s _ rfl d x fun J ds s1 n1 ⟨Gd, Y, w, hG, hY⟩ ⟨Iv, i0, step, fin⟩ => ?_
  refine for_it w (fun k σ H => ∃ s', s'.σ = σ ∧ s'.H = H ∧ Stp s1 s' ∧ Den K s' ∧ Iv k s'.ρ) ⟨s1, n1.slots, rfl, Stp.refl _, n1.den, i0⟩ ?_ ?_ ?_
  · rintro i σ H _ ⟨s', rfl, rfl, st, d', _⟩
    exact hG s' st d'
  · rintro i x' σ H H' hi ⟨s', rfl, rfl, st, d', inv⟩ y
    obtain ⟨s2, dd, e1, e2, n2, e3, e4⟩ := hY i x' s' H' hi st d' y
    rw [← e2, ← n2.slots]
    have st2 := st.trans n2.stp
    refine step i dd s'.ρ e3 inv s2 x' _ e1 n2.den e4 fun s3 n3 D3 _ _ q3 => ?_
    have st3 := st2.trans n3
    refine q3 s3 _ rfl D3 ((x.next n1.stp).next st3) ⟨fun s4 n4 D4 q4 => ⟨s4, rfl, rfl, st3.trans n4, D4, q4⟩, fun v av s4 n4 D4 ok q4 => (f.next (n1.stp.trans st3)).rt v av s4 n4 D4 ok q4, fun s4 n4 D4 q4 => (f.next (n1.stp.trans st3)).nx s4 n4 D4 q4, fun s4 n4 D4 q4 => ⟨s4, rfl, rfl, st3.trans n4, D4, q4⟩⟩
  · rintro σ H ⟨s', rfl, rfl, st, d', inv⟩
    exact f.nx s' (n1.stp.trans st) d' (fin _ inv)
/-! ### while -/
theorem ws_while {c : TT} {tb : TS} (Iv : Nat → Sls → Prop) (m0 : Nat) (i0 : Iv m0 ρ)
    (step : ∀ m ρ2, Iv m ρ2 → WT K W c ρ2 (fun b ρ3 => if b = true then WS K W tb ρ3 { P with nx := fun ρ4 => ∃ m', m' < m ∧ Iv m' ρ4, ct := fun ρ4 => ∃ m', m' < m ∧ Iv m' ρ4, bk := P.nx } else P.nx ρ3) P.xc) : WS K W (tWhile c tb) ρ P := by
  rintro s D rfl d x f
  refine ⟨fun m σ H => ∃ s', s'.σ = σ ∧ s'.H = H ∧ Stp s s' ∧ Den K s' ∧ Iv m s'.ρ, ⟨m0, s, rfl, rfl, Stp.refl s, d, i0⟩, ?_⟩
  rintro m σ H ⟨s', rfl, rfl, st, d', inv⟩
  refine step m s'.ρ inv s' _ rfl d' (x.next st) fun b s1 n1 q => ?_
  have st1 := st.trans n1.stp
  cases b with
  | true =>
    refine iteT ⟨fun σ H => ∃ m', m' < m ∧ ∃ s', s'.σ = σ ∧ s'.H = H ∧ Stp s s' ∧ Den K s' ∧ Iv m' s'.ρ, fun σ H h => h, ?_⟩
    rw [← n1.slots]
    have q : WS K W tb s1.ρ { P with nx := fun ρ4 => ∃ m', m' < m ∧ Iv m' ρ4, ct := fun ρ4 => ∃ m', m' < m ∧ Iv m' ρ4, bk := P.nx } := by simpa using q
    exact q s1 _ rfl n1.den (x.next st1) ⟨fun s4 n4 D4 ⟨m', l, q4⟩ => ⟨m', l, s4, rfl, rfl, st1.trans n4, D4, q4⟩, fun v av s4 n4 D4 ok q4 => (f.next st1).rt v av s4 n4 D4 ok q4, fun s4 n4 D4 q4 => (f.next st1).nx s4 n4 D4 q4, fun s4 n4 D4 ⟨m', l, q4⟩ => ⟨m', l, s4, rfl, rfl, st1.trans n4, D4, q4⟩⟩
  | false =>
    refine iteF ?_
    rw [← n1.slots]
    exact f.nx s1 st1 n1.den (by simpa using q)
/-! ### comprehensions -/
def wipeE (ρ : Sls) : List Nat → Sls
  | [] => ρ
  | v :: vs => (wipeE ρ vs).set v .un
def keepV : Option Sl → Sl
  | some (.val d) => .val d
  | _ => .un
def mixE (ρ1 ρ2 : Sls) : List Nat → Sls
  | [] => ρ2
  | v :: vs => (mixE ρ1 ρ2 vs).set v (keepV ρ1[v]?)
theorem wipe1 {s : Sta} {i : Nat} (D : Den K s) (h : nb s.ρ i = true) : Stp s { s with ρ := s.ρ.set i .un, σ := s.σ.set i none } ∧ Den K { s with ρ := s.ρ.set i .un, σ := s.σ.set i none } := by
  obtain ⟨hl, hb⟩ := nb_lt h
  have f : ∀ {j b}, OwnAt { s with ρ := s.ρ.set i .un, σ := s.σ.set i none } j b → j ≠ i ∧ OwnAt s j b := fun {j b} h => by
    obtain ⟨⟨sl, x, q1, q2⟩, q3⟩ := h
    rcases get_set q1 with ⟨rfl, h, _⟩ | ⟨n, q⟩
    · subst h
      cases q2
    · refine ⟨n, ⟨sl, x, q, q2⟩, ?_⟩
      rcases get_set q3 with ⟨h, _⟩ | ⟨_, q3⟩
      · exact absurd h n
      · exact q3
  refine ⟨⟨fun _ _ e => e, fun _ _ e _ => e, fun _ e => e, fun b ⟨j, h⟩ => .inl ⟨j, (f h).2⟩, fun _ _ _ e => e, fun j x e => ?_⟩, ⟨D.sub, ?_, fun j x e => ?_, fun j sl x e1 e2 => ?_, fun j k b h1 h2 => D.dis j k b (f h1).2 (f h2).2⟩⟩
  · have n : i ≠ j := fun q => hb x (by rw [q]; exact e)
    exact ⟨x, by show (s.ρ.set i _)[j]? = _; rw [List.getElem?_set_ne n]; exact e, by show (s.σ.set i _)[j]? = _; rw [List.getElem?_set_ne n]⟩
  · show (s.σ.set i none).length = (s.ρ.set i .un).length
    rw [List.length_set, List.length_set]
    exact D.len
  · rcases get_set e with ⟨rfl, h, _⟩ | ⟨n, e⟩
    · cases h
    · obtain ⟨u, h1, h2⟩ := D.val j x e
      exact ⟨u, by show (s.σ.set i _)[j]? = _; rw [List.getElem?_set_ne (Ne.symm n)]; exact h1, h2⟩
  · rcases get_set e1 with ⟨rfl, h, _⟩ | ⟨n, e⟩
    · subst h
      cases e2
    · obtain ⟨b, u, h1, h2, h3, h4⟩ := D.own j sl x e e2
      exact ⟨b, u, by show (s.σ.set i _)[j]? = _; rw [List.getElem?_set_ne (Ne.symm n)]; exact h1, h2, h3, h4⟩
/-- all of these slots can be wiped -/
def nbs (ρ : Sls) : List Nat → Bool
  | [] => true
  | v :: vs => nb (wipeE ρ vs) v && nbs ρ vs
theorem wipe_all {s : Sta} (D : Den K s) : ∀ {vs : List Nat}, nbs s.ρ vs = true → Stp s { s with ρ := wipeE s.ρ vs, σ := wipe s.σ vs } ∧ Den K { s with ρ := wipeE s.ρ vs, σ := wipe s.σ vs }
  | [], _ => ⟨Stp.refl s, D⟩
  | v :: vs, h => by
    have h : (nb (wipeE s.ρ vs) v && nbs s.ρ vs) = true := h
    rw [Bool.and_eq_true] at h
    obtain ⟨a, b⟩ := wipe_all D h.2
    obtain ⟨c, d⟩ := wipe1 (s := { s with ρ := wipeE s.ρ vs, σ := wipe s.σ vs }) b h.1
    exact ⟨a.trans c, d⟩
theorem wipe_ext {σ σ' : L2.St} : ∀ {vs : List Nat}, (∀ i, i ∉ vs → σ'[i]? = σ[i]?) → σ'.length = σ.length → wipe σ' vs = wipe σ vs := by
  intro vs h l
  apply List.ext_getElem?
  intro i
  by_cases hi : i ∈ vs
  · have key : ∀ (σ : L2.St) (vs : List Nat), i ∈ vs → (wipe σ vs)[i]? = if i < σ.length then some none else none := by
      intro σ vs
      induction vs with
      | nil => intro h; cases h
      | cons v vs ih =>
        intro h
        unfold wipe
        by_cases q : v = i
        · subst q
          rw [List.getElem?_set, if_pos rfl, wipe_length]
        · rw [List.getElem?_set_ne q]
          exact ih (by rcases List.mem_cons.mp h with e | e; exact absurd e.symm q; exact e)
    rw [key σ' vs hi, key σ vs hi, l]
  · rw [wipe_out hi, wipe_out hi]
    exact h i hi
theorem wipe_idem {σ : L2.St} {vs : List Nat} : wipe (wipe σ vs) vs = wipe σ vs := wipe_ext (fun i hi => wipe_out hi) (wipe_length σ vs)
theorem mix_get {ρ1 ρ2 : Sls} {i : Nat} {x : Sl} : ∀ {vs : List Nat}, (mixE ρ1 ρ2 vs)[i]? = some x → (i ∈ vs ∧ x = keepV ρ1[i]?) ∨ (i ∉ vs ∧ ρ2[i]? = some x)
  | [], h => .inr ⟨by simp, h⟩
  | v :: vs, h => by
    rcases get_set (show ((mixE ρ1 ρ2 vs).set v (keepV ρ1[v]?))[i]? = some x from h) with ⟨rfl, rfl, _⟩ | ⟨n, h⟩
    · exact .inl ⟨List.mem_cons_self, rfl⟩
    · rcases mix_get h with ⟨m, e⟩ | ⟨m, e⟩
      · exact .inl ⟨List.mem_cons_of_mem _ m, e⟩
      · exact .inr ⟨fun z => by rcases List.mem_cons.mp z with z | z; exact n z; exact m z, e⟩
theorem mix_length {ρ1 ρ2 : Sls} : ∀ {vs : List Nat}, (mixE ρ1 ρ2 vs).length = ρ2.length
  | [] => rfl
  | v :: vs => by unfold mixE; rw [List.length_set]; exact mix_length
/-- a new object that is in no slot is written -/
theorem poke {s0 s : Sta} {p : Addr} {o u : HO} (n0 : Stp s0 s) (D : Den K s) (h0 : s0.H p = none) (h1 : s.H p = some u) (h2 : s.G p = none) (h3 : ¬ Owns s p) : Stp s0 { s with H := upd s.H p o } ∧ Den K { s with H := upd s.H p o } := by
  refine ⟨⟨n0.sub, fun a x e n => ?_, fun a e => ?_, n0.own, n0.gfr, n0.bor⟩, ⟨fun a x e => ?_, D.len, D.val, fun i sl d e1 e2 => ?_, D.dis⟩⟩
  · show upd s.H p o a = some x
    rw [upd_ne (ne_of_none e h0)]
    exact n0.fr a x e n
  · have e : upd s.H p o a = none := e
    by_cases q : a = p
    · rw [q, upd_same] at e
      cases e
    · rw [upd_ne q] at e
      exact n0.dom a e
  · show upd s.H p o a = some x
    rw [upd_ne (ne_of_none e h2)]
    exact D.sub a x e
  · obtain ⟨a, x, e3, e4, e5, e6⟩ := D.own i sl d e1 e2
    refine ⟨a, x, e3, e4, ?_, e6⟩
    show upd s.H p o a = some x
    rw [upd_ne (fun q => h3 (by rw [← q]; exact ⟨i, ⟨sl, d, e1, e2⟩, e3⟩))]
    exact e5
/-- a new object that is in no slot stays -/
theorem Stp.temp {s s' : Sta} {p : Addr} {u : HO} (n : Stp s s') (h1 : s.H p = some u) (h2 : s.G p = none) (h3 : ¬ Owns s p) : s'.H p = some u ∧ s'.G p = none ∧ ¬ Owns s' p :=
  ⟨n.fr p u h1 h3, n.gfr p (by rw [h1]; exact nofun) h3 h2, fun h => by
    rcases n.own p h with h | h
    · exact h3 h
    · rw [h1] at h
      cases h⟩
theorem we_lc {wi : TI} {g : TG} {tt : TT} {te : TE} {vs : List Nat} {Q : Av → Sls → Prop} (h : WI K W wi ρ (fun ds ρ1 => nbs ρ1 vs = true ∧ ∃ Iv : Nat → List U → Sls → Prop, Iv 0 [] (wipeE ρ1 vs) ∧
    (∀ (k : Nat) (d : U) (acc : List U) (ρ2 : Sls), ds[k]? = some d → acc.length ≤ k → Iv k acc ρ2 → WG K g vs d ρ2 (fun ρ3 => WT K W tt ρ3 (fun b ρ4 => if b = true then
        WE K W te ρ4 (fun a ρ5 => ∃ d' ρ6, Frz ρ5 [a.fl] [d'] ρ6 ∧ acc.length < 1000 ∧ nbs ρ6 vs = true ∧ Iv (k + 1) (acc ++ [d']) (wipeE ρ6 vs)) X
      else nbs ρ4 vs = true ∧ Iv (k + 1) acc (wipeE ρ4 vs)) X)) ∧
    ∀ acc ρ2, acc.length ≤ ds.length → Iv ds.length acc ρ2 → Q (.own (.lst acc)) (mixE ρ1 ρ2 vs)) X) : WE K W (tLc wi g tt te vs) ρ Q X := by
  rintro s Q0 rfl D x k
  refine h s _ rfl D x fun J ds s1 n1 ⟨Gd, Y, w, hG, hY⟩ ⟨hnb, Iv, i0, step, fin⟩ => ?_
  intro p hp
  have nL := lay (o := .lst []) n1.den hp
  obtain ⟨sw, dw⟩ := wipe_all (s := { s1 with H := upd s1.H p (.lst []) }) nL.den hnb
  have stw := nL.stp.trans sw
  obtain ⟨g0, o0⟩ := n1.den.free hp
  have ow : ¬ Owns { s1 with H := upd s1.H p (.lst []), ρ := wipeE s1.ρ vs, σ := wipe s1.σ vs } p := fun h => by
    rcases sw.own p h with h | h
    · exact o0 h
    · have h : upd s1.H p (.lst []) p = none := h
      rw [upd_same] at h
      cases h
  rw [← n1.slots]
  refine lc_it w (fun k H => ∃ s' xs acc, s'.H = H ∧ s'.σ = wipe s1.σ vs ∧ Stp s1 s' ∧ Den K s' ∧ s'.H p = some (.lst xs) ∧ AtAll K s'.G xs acc ∧ s'.G p = none ∧ ¬ Owns s' p ∧ acc.length ≤ k ∧ Iv k acc s'.ρ)
    ⟨{ s1 with H := upd s1.H p (.lst []), ρ := wipeE s1.ρ vs, σ := wipe s1.σ vs }, [], [], rfl, rfl, stw, dw, upd_same, .nil, g0, ow, Nat.le_refl _, i0⟩ ?_ ?_ ?_
  · rintro i H _ ⟨s', xs, acc, rfl, _, st, d', _⟩
    exact hG s' st d'
  · rintro i x' H H' hi ⟨s', xs, acc, rfl, eσ, st, d', hD, hx, hg, ho, hl, inv⟩ y
    obtain ⟨s2, dd, e1, e2, n2, e3, e4⟩ := hY i x' s' H' hi st d' y
    have eσ2 : s2.σ = wipe s1.σ vs := n2.slots.trans eσ
    rw [← e2, ← eσ2]
    have st2 := st.trans n2.stp
    obtain ⟨hD2, hg2, ho2⟩ := n2.stp.temp hD hg ho
    refine step i dd acc s'.ρ e3 hl inv s2 x' _ e1 n2.den e4 fun s3 n3 D3 k3 l3 q3 => ?_
    have ew : wipe s3.σ vs = wipe s1.σ vs := (wipe_ext k3 l3).trans (by rw [eσ2]; exact wipe_idem)
    have st3 := st2.trans n3
    obtain ⟨hD3, hg3, ho3⟩ := n3.temp hD2 hg2 ho2
    have hx3 := AtAll.mono (n2.stp.sub.trans n3.sub) _ _ hx
    refine ⟨ew.trans eσ2.symm, q3 s3 _ rfl D3 ((x.next n1.stp).next st3) fun b s4 n4 q4 => ?_⟩
    obtain ⟨hD4, hg4, ho4⟩ := n4.stp.temp hD3 hg3 ho3
    have st4 := st3.trans n4.stp
    have hx4 := AtAll.mono n4.stp.sub _ _ hx3
    cases b with
    | true =>
      refine iteT ?_
      rw [← n4.slots]
      have q4 : WE K W te s4.ρ (fun a ρ5 => ∃ d' ρ6, Frz ρ5 [a.fl] [d'] ρ6 ∧ acc.length < 1000 ∧ nbs ρ6 vs = true ∧ Iv (i + 1) (acc ++ [d']) (wipeE ρ6 vs)) X := by simpa using q4
      refine WE.flat (Q := fun a ρ5 => ∃ d' ρ6, Frz ρ5 [a] [d'] ρ6 ∧ acc.length < 1000 ∧ nbs ρ6 vs = true ∧ Iv (i + 1) (acc ++ [d']) (wipeE ρ6 vs)) q4 rfl n4.den ((x.next n1.stp).next st4) fun u a s5 n5 fa ok5 ⟨d1, ρ6, hf, hlen, hn6, inv6⟩ => ?_
      obtain ⟨s6, e5, e6, n6, hu⟩ := frz1 hf fa n5.den ok5
      have n56 := n5.trans n6
      obtain ⟨hD6, hg6, ho6⟩ := n56.stp.temp hD4 hg4 ho4
      have hx6 := AtAll.mono n56.stp.sub _ _ hx4
      rw [← e6]
      refine ⟨xs, hD6, small1000 (by rw [hx6.length]; omega), ?_⟩
      obtain ⟨st7, d7⟩ := poke (o := .lst (xs ++ [u])) (st4.trans n56.stp) n56.den hp hD6 hg6 ho6
      obtain ⟨sw7, dw7⟩ := wipe_all (s := { s6 with H := upd s6.H p (.lst (xs ++ [u])) }) (vs := vs) d7 (by show nbs s6.ρ vs = true; rw [e5]; exact hn6)
      refine ⟨{ s6 with H := upd s6.H p (.lst (xs ++ [u])), ρ := wipeE s6.ρ vs, σ := wipe s6.σ vs }, _, acc ++ [d1], rfl, ?_, st7.trans sw7, dw7, upd_same, hx6.snoc hu, hg6, fun h => ?_, by rw [List.length_append, List.length_singleton]; omega, by show Iv _ _ (wipeE s6.ρ vs); rw [e5]; exact inv6⟩
      · show wipe s6.σ vs = _
        rw [n56.slots, n4.slots]
        exact ew.trans eσ2.symm
      · rcases sw7.own p h with h | h
        · exact ho6 h
        · have h : upd s6.H p (.lst (xs ++ [u])) p = none := h
          rw [upd_same] at h
          cases h
    | false =>
      refine iteF ?_
      obtain ⟨hn4, inv4⟩ : nbs s4.ρ vs = true ∧ Iv (i + 1) acc (wipeE s4.ρ vs) := by simpa using q4
      obtain ⟨sw4, dw4⟩ := wipe_all n4.den hn4
      refine ⟨{ s4 with ρ := wipeE s4.ρ vs, σ := wipe s4.σ vs }, xs, acc, rfl, ?_, st4.trans sw4, dw4, hD4, hx4, hg4, (sw4.temp hD4 hg4 ho4).2.2, by omega, inv4⟩
      show wipe s4.σ vs = _
      rw [n4.slots]
      exact ew.trans eσ2.symm
  · rintro H ⟨s', xs, acc, rfl, eσ, st, d', hD, hx, hg, ho, hl, inv⟩
    have out : ∀ {i : Nat}, i ∉ vs → s'.σ[i]? = s1.σ[i]? := fun {i} hi => by rw [eσ]; exact wipe_out hi
    have f : ∀ {i a}, OwnAt ⟨s'.G, mixE s1.ρ s'.ρ vs, s1.σ, s'.H⟩ i a → OwnAt s' i a := fun {i a} ⟨⟨sl, z, e1, e2⟩, e3⟩ => by
      rcases mix_get e1 with ⟨m, rfl⟩ | ⟨m, e⟩
      · exfalso
        unfold keepV at e2
        split at e2 <;> cases e2
      · exact ⟨⟨sl, z, e, e2⟩, (out m).trans e3⟩
    refine k (.ref p) (.own (.lst acc)) ⟨s'.G, mixE s1.ρ s'.ρ vs, s1.σ, s'.H⟩ (n1.trans ⟨⟨st.sub, st.fr, st.dom, fun a ⟨i, h⟩ => st.own a ⟨i, f h⟩, st.gfr, fun i z e => ?_⟩, ⟨d'.sub, ?_, fun i z e => ?_, fun i sl z e1 e2 => ?_, fun i j a h1 h2 => d'.dis i j a (f h1) (f h2)⟩, rfl⟩) ⟨p, .lst xs, rfl, hD, hg, .lst hx, fun ⟨i, h⟩ => ho ⟨i, f h⟩, .inl (n1.stp.dom p hp)⟩ (fin acc _ hl inv)
    · obtain ⟨y, h1, h2⟩ := st.bor i z e
      refine ⟨y, ?_, rfl⟩
      cases q : (mixE s1.ρ s'.ρ vs)[i]? with
      | none =>
        rw [List.getElem?_eq_none_iff, mix_length] at q
        have := lt_of_get h1
        omega
      | some w =>
        rcases mix_get q with ⟨m, _⟩ | ⟨m, e'⟩
        · exfalso
          have hw : ∀ vs : List Nat, i ∈ vs → ∀ (ρ : Sls) (w : U), (wipeE ρ vs)[i]? ≠ some (.bor w) := by
            intro vs
            induction vs with
            | nil => intro h; cases h
            | cons v vs ih =>
              intro h ρ w e
              rcases get_set (show ((wipeE ρ vs).set v .un)[i]? = some (.bor w) from e) with ⟨_, e, _⟩ | ⟨n, e⟩
              · cases e
              · rcases List.mem_cons.mp h with h | h
                · exact n h
                · exact ih h ρ w e
          obtain ⟨y2, h3, _⟩ := stw.bor i z e
          exact hw vs m s1.ρ y2 h3
        · rw [h1] at e'
          exact congrArg some (Option.some.inj e').symm
    · show s1.σ.length = (mixE s1.ρ s'.ρ vs).length
      rw [mix_length, ← d'.len, eσ, wipe_length]
    · rcases mix_get e with ⟨m, h⟩ | ⟨m, h⟩
      · have h : keepV s1.ρ[i]? = .val z := h.symm
        cases q : s1.ρ[i]? with
        | none => rw [q] at h; cases h
        | some w =>
          rw [q] at h
          cases w with
          | val y =>
            cases h
            obtain ⟨v, h1, h2⟩ := n1.den.val i _ q
            exact ⟨v, h1, At.mono st.sub _ _ h2⟩
          | _ => cases h
      · obtain ⟨v, h1, h2⟩ := d'.val i z h
        exact ⟨v, (out m).symm.trans h1, h2⟩
    · rcases mix_get e1 with ⟨m, rfl⟩ | ⟨m, h⟩
      · exfalso
        unfold keepV at e2
        split at e2 <;> cases e2
      · obtain ⟨a, o, h1, h2⟩ := d'.own i sl z h e2
        exact ⟨a, o, (out m).symm.trans h1, h2⟩
end

/-! ### own objects written -/
section
variable {K : PySem.W.Frag} {W : Wx} {X : Er → Sls → Prop} {ρ : Sls} {P : Post}
theorem cell_write {s : Sta} {i : Nat} {sl : Sl} {d d' : U} {a : Addr} {o o' : HO} (D : Den K s) (e : s.ρ[i]? = some sl) (c : sl.cell = some d) (ea : s.σ[i]? = some (some (.ref a))) (ho : s.H a = some o) (c' : Cell K s.G o' d') :
    Nxt K s { s with ρ := setC s.ρ i d', H := upd s.H a o' } := by
  have oa : OwnAt s i a := ⟨⟨sl, d, e, c⟩, ea⟩
  obtain ⟨a', o1, e1, g1, e2, e3⟩ := D.own i sl d e c
  rw [ea] at e1
  cases e1
  have back : ∀ {j b}, OwnAt { s with ρ := setC s.ρ i d', H := upd s.H a o' } j b → OwnAt s j b := fun {j b} ⟨⟨sl', x, q1, q2⟩, q3⟩ => by
    rcases setC_get q1 with ⟨h, _⟩ | ⟨rfl, h, y, h2, _⟩
    · exact ⟨⟨sl', x, h, q2⟩, q3⟩
    · rw [h2] at e
      cases e
      exact ⟨⟨sl, d, h2, c⟩, q3⟩
  refine ⟨⟨fun _ _ h => h, fun b u h n => ?_, fun b h => ?_, fun b ⟨j, h⟩ => .inl ⟨j, back h⟩, fun _ _ _ h => h, fun j x h => ?_⟩, ⟨fun b u h => ?_, ?_, fun j x h => ?_, fun j sl' x h1 h2 => ?_, fun j k b h1 h2 => D.dis j k b (back h1) (back h2)⟩, rfl⟩
  · show upd s.H a o' b = some u
    rw [upd_ne (fun q => n (by rw [q]; exact ⟨i, oa⟩))]
    exact h
  · have h : upd s.H a o' b = none := h
    by_cases q : b = a
    · rw [q, upd_same] at h
      cases h
    · rw [upd_ne q] at h
      exact h
  · obtain ⟨y, q⟩ := setC_bor (i := i) (d := d') h
    exact ⟨y, q, rfl⟩
  · show upd s.H a o' b = some u
    rw [upd_ne (ne_of_none h g1)]
    exact D.sub b u h
  · show s.σ.length = (setC s.ρ i d').length
    rw [setC_length]
    exact D.len
  · rcases setC_get h with ⟨h, _⟩ | ⟨rfl, h, _⟩
    · exact D.val j x h
    · cases h
  · rcases setC_get h1 with ⟨h3, h4⟩ | ⟨rfl, h3, _⟩
    · obtain ⟨b, u, q1, q2, q3, q4⟩ := D.own j sl' x h3 h2
      refine ⟨b, u, q1, q2, ?_, q4⟩
      show upd s.H a o' b = some u
      rw [upd_ne ?_]
      · exact q3
      · rintro rfl
        obtain rfl := D.dis j i b ⟨⟨sl', x, h3, h2⟩, q1⟩ oa
        rcases h4 with h4 | h4
        · exact h4 rfl
        · rw [h2] at h4
          cases h4
    · rw [h3] at h2
      cases h2
      exact ⟨a, o', ea, g1, upd_same, c'⟩
/-! ### data that are no objects -/
def scalU : U → Option V
  | .non => some .non
  | .bl b => some (.bl b)
  | .int i => some (.int i)
  | .str z => some (.str z)
  | .ty n => some (.ty n)
  | _ => none
theorem at_scal {G : Hp} {v x : V} {d : U} (h : At K G v d) (e : scalU d = some x) : v = x := by
  cases h <;> first | exact Option.some.inj e | cases e
theorem avs_one {s : Sta} {vs : List V} {a : Av} (h : AvsOk K s vs [a]) : ∃ v, vs = [v] ∧ AvOk K s s v a := by
  cases h with
  | cons _ h t =>
    cases t
    exact ⟨_, rfl, h⟩
theorem avs_two {s : Sta} {vs : List V} {a b : Av} (h : AvsOk K s vs [a, b]) : ∃ v w, vs = [v, w] ∧ AvOk K s s v a ∧ AvOk K s s w b := by
  cases h with
  | cons _ h t =>
    obtain ⟨w, rfl, h2⟩ := avs_one t
    exact ⟨_, w, rfl, h, h2⟩
theorem AtAll.atI {G : Hp} {xs : List V} {ds : List U} {i : Int} {d : U} (h : AtAll K G xs ds) (e : L2.atI ds i = some d) : ∃ z, L2.atI xs i = some z ∧ At K G z d := by
  unfold L2.atI at e ⊢
  rw [h.length]
  cases q : ixN ds.length i with
  | none => rw [q] at e; cases e
  | some j =>
    rw [q] at e
    obtain ⟨v, h1, h2⟩ := h.get2 (show ds[j]? = some d from e)
    exact ⟨v, h1, h2⟩
theorem Cnt.dt {s : Sta} {Q : Av → Sls → Prop} {Q0 : VK} (k : Cnt K s Q Q0) (D : Den K s) {v : V} {d : U} (h : At K s.G v d) (q : Q (.dt d) s.ρ) : Q0 v s.H := k v (.dt d) s (Nxt.refl D) h q
theorem Cnt.new {s : Sta} {Q : Av → Sls → Prop} {Q0 : VK} (k : Cnt K s Q Q0) (D : Den K s) {p : Addr} {o : HO} {d : U} (hp : s.H p = none) (c : Cell K s.G o d) (q : Q (.own d) s.ρ) : Q0 (.ref p) (upd s.H p o) := by
  have n3 := lay (o := o) D hp
  obtain ⟨g, no⟩ := D.free hp
  exact k (.ref p) (.own d) _ n3 ⟨p, o, rfl, upd_same, g, c, no, .inl hp⟩ q
theorem Cnt.tup {s : Sta} {Q : Av → Sls → Prop} {Q0 : VK} (k : Cnt K s Q Q0) (D : Den K s) {p : Addr} {xs : List V} {ds : List U} (hp : s.H p = none) (c : AtAll K s.G xs ds) (q : Q (.dt (.tup ds)) s.ρ) : Q0 (.ref p) (upd s.H p (.tup xs)) := by
  obtain ⟨n3, sub⟩ := layF (o := .tup xs) D hp
  exact k (.ref p) (.dt (.tup ds)) _ n3 (.tup (SqT.of upd_same) (AtAll.mono sub _ _ c)) q
/-! ### operators -/
theorem wr_I {C : Int → Int → Prop} {f : Int → Int → V} {i j : Int} {d : U} {Q : Av → Sls → Prop} (c : C i j) (hd : ∀ G, At K G (f i j) d) (q : Q (.dt d) ρ) : WR K W (rI C f) (.dt (.int i)) (.dt (.int j)) ρ Q X := by
  rintro s v w Q0 rfl D x h1 h2 k
  rw [at_int h1, at_int h2]
  exact ⟨i, j, rfl, rfl, c, k.dt D (hd _) q⟩
theorem wr_I0 {f : Int → Int → V} {i j : Int} {d : U} {Q : Av → Sls → Prop} (hd : ∀ G, At K G (f i j) d) (q : Q (.dt d) ρ) : WR K W (rI0 f) (.dt (.int i)) (.dt (.int j)) ρ Q X := by
  rintro s v w Q0 rfl D x h1 h2 k
  rw [at_int h1, at_int h2]
  exact ⟨i, j, rfl, rfl, k.dt D (hd _) q⟩
theorem wr_ip {f : Int → Int → Int} {i j : Int} {Q : Av → Sls → Prop} (q : Q (.dt (.int (f i j))) ρ) : WR K W (ipI f) (.dt (.int i)) (.dt (.int j)) ρ Q X := by
  rintro s v w Q0 rfl D x h1 h2 k
  rw [at_int h1, at_int h2]
  exact ⟨i, j, rfl, rfl, k.dt D (.int _) q⟩
theorem wr_eq {d e : U} {x y : V} {Q : Av → Sls → Prop} (hx : scalU d = some x) (hy : scalU e = some y) (c : scal x y = true) (q : Q (.dt (.bl (decide (x = y)))) ρ) : WR K W rEq (.dt d) (.dt e) ρ Q X := by
  rintro s v w Q0 rfl D _ h1 h2 k
  rw [at_scal h1 hx, at_scal h2 hy]
  exact ⟨c, k.dt D (.bl _) q⟩
theorem wr_ne {d e : U} {x y : V} {Q : Av → Sls → Prop} (hx : scalU d = some x) (hy : scalU e = some y) (c : scal x y = true) (q : Q (.dt (.bl (!decide (x = y)))) ρ) : WR K W rNe (.dt d) (.dt e) ρ Q X := by
  rintro s v w Q0 rfl D _ h1 h2 k
  rw [at_scal h1 hx, at_scal h2 hy]
  exact ⟨c, k.dt D (.bl _) q⟩
theorem wr_cat_str {i j : Str} {Q : Av → Sls → Prop} (c : i.length + j.length ≤ 100000) (q : Q (.dt (.str (i ++ j))) ρ) : WR K W (fun x y H Q => ∃ i j, x = .str i ∧ y = .str j ∧ i.length + j.length ≤ sizeLine ∧ Q (.str (i ++ j)) H) (.dt (.str i)) (.dt (.str j)) ρ Q X := by
  rintro s v w Q0 rfl D _ h1 h2 k
  rw [at_str h1, at_str h2]
  exact ⟨i, j, rfl, rfl, Nat.le_trans c (by decide), k.dt D (.str _) q⟩
theorem wr_cat {a b : Av} {ds es : List U} {Q : Av → Sls → Prop} (ha : View ρ a (.lst ds)) (hb : View ρ b (.lst es)) (c : ds.length + es.length ≤ 100000) (q : Q (.own (.lst (ds ++ es))) ρ) : WR K W rCat a b ρ Q X := by
  rintro s v w Q0 rfl D _ h1 h2 k
  obtain ⟨l, xs, rfl, e1, q1⟩ := view_list D h1 ha
  obtain ⟨m, ys, rfl, e2, q2⟩ := view_list D h2 hb
  refine ⟨l, m, xs, ys, rfl, rfl, e1, e2, ?_, fun p hp => k.new D hp (.lst (q1.append q2)) q⟩
  rw [q1.length, q2.length]
  exact Nat.le_trans c (by decide)
theorem wr_ixL {a : Av} {ds : List U} {i : Int} {d : U} {Q : Av → Sls → Prop} (ha : View ρ a (.lst ds)) (e : atI ds i = some d) (q : Q (.dt d) ρ) : WR K W (rIxL K) a (.dt (.int i)) ρ Q X := by
  rintro s v w Q0 rfl D _ h1 h2 k
  obtain ⟨l, xs, rfl, e1, q1⟩ := view_list D h1 ha
  rw [at_int h2]
  obtain ⟨z, e2, hz⟩ := q1.atI e
  exact ⟨l, xs, i, z, rfl, rfl, SqL.of e1, e2, k.dt D hz q⟩
theorem wr_ixT {a : Av} {ds : List U} {i : Int} {d : U} {Q : Av → Sls → Prop} (ha : View ρ a (.tup ds)) (e : atI ds i = some d) (q : Q (.dt d) ρ) : WR K W (rIxT K) a (.dt (.int i)) ρ Q X := by
  rintro s v w Q0 rfl D _ h1 h2 k
  obtain ⟨l, xs, rfl, e1, q1⟩ := view_tup D h1 ha
  rw [at_int h2]
  obtain ⟨z, e2, hz⟩ := q1.atI e
  exact ⟨l, xs, i, z, rfl, rfl, e1, e2, k.dt D hz q⟩
theorem wr_ixF {ds : List U} {i : Int} {d : U} {Q : Av → Sls → Prop} (e : atI ds i = some d) (q : Q (.dt d) ρ) : WR K W (rIxL K) (.dt (.fls ds)) (.dt (.int i)) ρ Q X := by
  rintro s v w Q0 rfl D _ h1 h2 k
  have h1 : At K s.G v (.fls ds) := h1
  cases h1 with
  | fls hs q1 =>
    rw [at_int h2]
    obtain ⟨z, e2, hz⟩ := q1.atI e
    exact ⟨_, _, i, z, rfl, rfl, sql_same D.sub hs, e2, k.dt D hz q⟩
theorem wr_ixS {z : Str} {i : Int} {c : Nat} {Q : Av → Sls → Prop} (l : z.length ≤ 100000) (e : atI z.cps.toList i = some c) (q : Q (.dt (.str ⟨#[c]⟩)) ρ) : WR K W rIxS (.dt (.str z)) (.dt (.int i)) ρ Q X := by
  rintro s v w Q0 rfl D _ h1 h2 k
  rw [at_str h1, at_int h2]
  exact ⟨z, i, c, rfl, rfl, Nat.le_trans l (by decide), e, k.dt D (.str _) q⟩
theorem wr_ix {a b : Av} {Q : Av → Sls → Prop} (h : WR K W (rIxL K) a b ρ Q X ∨ WR K W (rIxT K) a b ρ Q X ∨ WR K W rIxS a b ρ Q X) : WR K W (rIx K) a b ρ Q X := by
  rintro s v w Q0 e D x h1 h2 k
  rcases h with h | h | h
  · exact .inl (h s v w Q0 e D x h1 h2 k)
  · exact .inr (.inl (h s v w Q0 e D x h1 h2 k))
  · exact .inr (.inr (h s v w Q0 e D x h1 h2 k))
/-- x in a list or tuple of plain items -/
theorem AtAll.scal {G : Hp} : ∀ {xs : List V} {ds : List U} {ys : List V}, AtAll K G xs ds → ds.map scalU = ys.map some → xs = ys
  | _, _, [], .nil, _ => rfl
  | _, _, _ :: _, .nil, e => nomatch e
  | _, _, [], .cons _ _, e => nomatch e
  | _, _, y :: ys, .cons h t, e => by
    have e1 := List.cons.inj e
    rw [at_scal h e1.1, AtAll.scal t e1.2]
theorem wr_in {a : Av} {d : U} {x : V} {ds : List U} {ys : List V} {neg : Bool} {Q : Av → Sls → Prop} (hx : scalU d = some x) (ha : View ρ a (.lst ds) ∨ View ρ a (.tup ds)) (hd : ds.map scalU = ys.map some) (f1 : flatV x = true) (f2 : ys.all flatV = true)
    (q : Q (.dt (.bl (if neg then !inV x ys else inV x ys))) ρ) : WR K W (rIn K neg) (.dt d) a ρ Q X := by
  rintro s v w Q0 rfl D _ h1 h2 k
  rw [at_scal h1 hx]
  rcases ha with ha | ha
  · obtain ⟨l, xs, rfl, e1, q1⟩ := view_list D h2 ha
    obtain rfl := q1.scal hd
    exact ⟨l, xs, rfl, .inl (SqL.of e1), f1, f2, k.dt D (.bl _) q⟩
  · obtain ⟨l, xs, rfl, e1, q1⟩ := view_tup D h2 ha
    obtain rfl := q1.scal hd
    exact ⟨l, xs, rfl, .inr e1, f1, f2, k.dt D (.bl _) q⟩
theorem wr_in_sign {c : Nat} {z : Str} {Q : Av → Sls → Prop} (q : Q (.dt (.bl (decide (c ∈ z.cps.toList)))) ρ) : WR K W (fun x y H Q => ∃ (c : Nat) (z : Str), x = .str ⟨#[c]⟩ ∧ y = .str z ∧ Q (.bl (decide (c ∈ z.cps.toList))) H) (.dt (.str ⟨#[c]⟩)) (.dt (.str z)) ρ Q X := by
  rintro s v w Q0 rfl D _ h1 h2 k
  rw [at_str h1, at_str h2]
  exact ⟨c, z, rfl, rfl, k.dt D (.bl _) q⟩
def nonU : U → Bool
  | .non => true
  | _ => false
theorem at_nonU {G : Hp} {v : V} {d : U} (h : At K G v d) : decide (v = .non) = nonU d := by
  cases h <;> first | rfl | exact decide_eq_false nofun
/-- what is looked at is None just if the datum is -/
theorem view_non {s : Sta} {v : V} {a : Av} {d : U} (D : Den K s) (ok : AvOk K s s v a) (w : View s.ρ a d) : decide (v = .non) = nonU d := at_nonU (view_at D ok w)
theorem wr_isN {a : Av} {d : U} {Q : Av → Sls → Prop} (ha : View ρ a d) (q : Q (.dt (.bl (nonU d))) ρ) : WR K W (fun x y H Q => y = .non ∧ Q (.bl (decide (x = .non))) H) a (.dt .non) ρ Q X := by
  rintro s v w Q0 rfl D _ h1 h2 k
  rw [at_non h2]
  refine ⟨rfl, ?_⟩
  rw [view_non D h1 ha]
  exact k.dt D (.bl _) q
theorem wr_notN {a : Av} {d : U} {Q : Av → Sls → Prop} (ha : View ρ a d) (q : Q (.dt (.bl (!nonU d))) ρ) : WR K W (fun x y H Q => y = .non ∧ Q (.bl (!decide (x = .non))) H) a (.dt .non) ρ Q X := by
  rintro s v w Q0 rfl D _ h1 h2 k
  rw [at_non h2]
  refine ⟨rfl, ?_⟩
  rw [view_non D h1 ha]
  exact k.dt D (.bl _) q
theorem wr_isB {b c : Bool} {Q : Av → Sls → Prop} (q : Q (.dt (.bl (decide (b = c)))) ρ) : WR K W rIsB (.dt (.bl b)) (.dt (.bl c)) ρ Q X := by
  rintro s v w Q0 rfl D _ h1 h2 k
  rw [at_bl h1, at_bl h2]
  exact ⟨b, c, rfl, rfl, k.dt D (.bl _) q⟩
theorem wr_notB {b c : Bool} {Q : Av → Sls → Prop} (q : Q (.dt (.bl (!decide (b = c)))) ρ) : WR K W rNotB (.dt (.bl b)) (.dt (.bl c)) ρ Q X := by
  rintro s v w Q0 rfl D _ h1 h2 k
  rw [at_bl h1, at_bl h2]
  exact ⟨b, c, rfl, rfl, k.dt D (.bl _) q⟩
theorem we_un {f : Int → V} {ta : TE} {Q : Av → Sls → Prop} (h : WE K W ta ρ (fun a ρ1 => ∃ i d, a = .dt (.int i) ∧ (∀ G, At K G (f i) d) ∧ Q (.dt d) ρ1) X) : WE K W (tUn (rU f) ta) ρ Q X := by
  rintro s Q0 rfl D x k
  refine h s _ rfl D x fun v a s1 n ok ⟨i, d, e, hd, q⟩ => ?_
  subst e
  have ok : At K s1.G v (.int i) := ok
  cases ok
  exact ⟨i, rfl, k _ (.dt d) s1 n (hd _) q⟩
/-! ### built-in functions -/
def WC (K : PySem.W.Frag) (W : Wx) (r : List V → Hp → VK → Prop) (as : List Av) (ρ : Sls) (Q : Av → Sls → Prop) (X : Er → Sls → Prop) : Prop :=
  ∀ (s : Sta) (vs : List V) (Q0 : VK), s.ρ = ρ → Den K s → XOk K s W X → AvsOk K s vs as → Cnt K s Q Q0 → r vs s.H Q0
theorem we_cb {r : List V → Hp → VK → Prop} {t : TA} {Q : Av → Sls → Prop} (h : WA K W t ρ (fun as ρ1 => WC K W r as ρ1 Q X) X) : WE K W (tCB r t) ρ Q X := by
  rintro s Q0 rfl D x k
  exact h s _ rfl D x fun vs as s1 n ok q => q s1 vs Q0 rfl n.den (x.next n.stp) ok (k.lift n)
theorem wc_int {i : Int} {Q : Av → Sls → Prop} (q : Q (.dt (.int i)) ρ) : WC K W (fun xs H Q => (∃ i, xs = [.int i] ∧ Q (.int i) H) ∨ ∃ k, xs = [.bl k] ∧ Q (.int (if k then 1 else 0)) H) [.dt (.int i)] ρ Q X := by
  rintro s vs Q0 rfl D _ h0 k
  obtain ⟨v, rfl, h⟩ := avs_one h0
  rw [at_int h]
  exact .inl ⟨i, rfl, k.dt D (.int _) q⟩
theorem wc_int_bl {b : Bool} {Q : Av → Sls → Prop} (q : Q (.dt (.int (if b then 1 else 0))) ρ) : WC K W (fun xs H Q => (∃ i, xs = [.int i] ∧ Q (.int i) H) ∨ ∃ k, xs = [.bl k] ∧ Q (.int (if k then 1 else 0)) H) [.dt (.bl b)] ρ Q X := by
  rintro s vs Q0 rfl D _ h0 k
  obtain ⟨v, rfl, h⟩ := avs_one h0
  rw [at_bl h]
  exact .inr ⟨b, rfl, k.dt D (.int _) q⟩
theorem wc_abs {i : Int} {Q : Av → Sls → Prop} (q : Q (.dt (.int (if i < 0 then -i else i))) ρ) : WC K W (fun xs H Q => ∃ i, xs = [.int i] ∧ Q (.int (if i < 0 then -i else i)) H) [.dt (.int i)] ρ Q X := by
  rintro s vs Q0 rfl D _ h0 k
  obtain ⟨v, rfl, h⟩ := avs_one h0
  rw [at_int h]
  exact ⟨i, rfl, k.dt D (.int _) q⟩
theorem wc_max {i j : Int} {Q : Av → Sls → Prop} (q : Q (.dt (.int (if j > i then j else i))) ρ) : WC K W (fun xs H Q => ∃ i j, xs = [.int i, .int j] ∧ Q (.int (if j > i then j else i)) H) [.dt (.int i), .dt (.int j)] ρ Q X := by
  rintro s vs Q0 rfl D _ h k
  obtain ⟨v, w, rfl, h1, h2⟩ := avs_two h
  rw [at_int h1, at_int h2]
  exact ⟨i, j, rfl, k.dt D (.int _) q⟩
theorem wc_min {i j : Int} {Q : Av → Sls → Prop} (q : Q (.dt (.int (if j < i then j else i))) ρ) : WC K W (fun xs H Q => ∃ i j, xs = [.int i, .int j] ∧ Q (.int (if j < i then j else i)) H) [.dt (.int i), .dt (.int j)] ρ Q X := by
  rintro s vs Q0 rfl D _ h k
  obtain ⟨v, w, rfl, h1, h2⟩ := avs_two h
  rw [at_int h1, at_int h2]
  exact ⟨i, j, rfl, k.dt D (.int _) q⟩
/-- how long a datum is -/
def ulen : U → Option Nat
  | .lst ds => some ds.length
  | .fls ds => some ds.length
  | .tup ds => some ds.length
  | .str z => if z.length ≤ 100000 then some z.length else none
  | _ => none
theorem wc_len {a : Av} {d : U} {n : Nat} {Q : Av → Sls → Prop} (ha : View ρ a d) (e : ulen d = some n) (q : Q (.dt (.int n)) ρ) : WC K W (fun xs H Q => ∃ x n, xs = [x] ∧ LenV K x H n ∧ Q (.int n) H) [a] ρ Q X := by
  rintro s vs Q0 rfl D _ h0 k
  obtain ⟨v, rfl, h⟩ := avs_one h0
  refine ⟨v, n, rfl, ?_, k.dt D (.int _) q⟩
  have hv := view_at D h ha
  cases hv with
  | lst hs hx =>
    cases (show some _ = some n from e)
    exact .inl ⟨_, SqL.of hs, hx.length.symm⟩
  | fls hs hx =>
    cases (show some _ = some n from e)
    exact .inl ⟨_, hs, hx.length.symm⟩
  | tup hs hx =>
    cases (show some _ = some n from e)
    exact .inr ⟨_, hs, hx.length.symm⟩
  | str z =>
    have e : (if z.length ≤ 100000 then some z.length else none) = some n := e
    by_cases hz : z.length ≤ 100000
    · rw [if_pos hz] at e
      cases e
      exact ⟨Nat.le_trans hz (by decide), rfl⟩
    · rw [if_neg hz] at e
      cases e
  | _ => cases e
theorem wc_lenD {a : Av} {ks : List Key} {ds : List U} {Q : Av → Sls → Prop} (ha : View ρ a (.dic ks ds)) (q : Q (.dt (.int (ks.length : Nat))) ρ) : WC K W (fun xs H Q => ∃ a kvs, xs = [V.ref a] ∧ H a = some (.dK kvs) ∧ Q (.int kvs.length) H) [a] ρ Q X := by
  rintro s vs Q0 rfl D _ h0 k
  obtain ⟨v, rfl, h⟩ := avs_one h0
  have hv := view_at D h ha
  cases hv with
  | dic hs hd =>
    refine ⟨_, _, rfl, hs, ?_⟩
    rw [List.length_map] at q
    exact k.dt D (.int _) q
/-- the class of a datum -/
def tyU : U → Value
  | .non => .type "NoneType"
  | .bl _ => .type "bool"
  | .int _ => .type "int"
  | .str _ => .type "str"
  | .lst _ => .type "list"
  | .fls _ => .type "list"
  | .tup _ => .type "tuple"
  | .dic _ _ => .type "dict"
  | .dct _ _ => .type "dict"
  | .obj C _ _ => .ref C
  | .exo C _ _ => .ref C
  | _ => .none
def plainU : U → Bool
  | .non => true
  | .bl _ => true
  | .int _ => true
  | .str _ => true
  | .lst _ => true
  | .fls _ => true
  | .tup _ => true
  | _ => false
theorem at_ty {H : Hp} {v : V} {d : U} (h : At K H v d) (p : plainU d = true) : TyX K H v (tyU d) := by
  cases h <;> first | cases p; done | exact ty_non | exact ty_bl | exact ty_int | exact ty_str | (rename_i hs _; exact ty_lst hs) | (rename_i hs _; exact ty_sqL hs) | (rename_i hs _; exact ty_sqT hs)
theorem wc_isi {a : Av} {d : U} {n : String} {b : Bool} {Q : Av → Sls → Prop} (ha : View ρ a d) (p : plainU d = true) (e : PySem.W.kitOne K (tyU d) (.type n) = some b) (q : Q (.dt (.bl b)) ρ) : WC K W (rIsi K) [a, .dt (.ty n)] ρ Q X := by
  rintro s vs Q0 rfl D _ h k
  obtain ⟨v, w, rfl, h1, h2⟩ := avs_two h
  have h2 : At K s.G w (.ty n) := h2
  cases h2
  exact ⟨v, .ty n, _, _, b, rfl, .ty n, at_ty (view_at D h1 ha) p, e, k.dt D (.bl _) q⟩
theorem AtAll.cls {G : Hp} : ∀ {xs : List V} {ns : List String}, AtAll K G xs (ns.map U.ty) → Paired ClsV xs (ns.map Value.type)
  | _, [], .nil => .nil
  | _, n :: ns, .cons h t => by
    cases h
    exact .cons (.ty n) (AtAll.cls t)
theorem wc_isiT {a : Av} {d : U} {ns : List String} {b : Bool} {Q : Av → Sls → Prop} (ha : View ρ a d) (p : plainU d = true) (e : PySem.W.kitAny K (tyU d) (ns.map Value.type) = some b) (q : Q (.dt (.bl b)) ρ) (hK : ∀ (G : Hp) (t : Addr) (xs : List V), SqT K G t xs → AtAll K G xs (ns.map U.ty) → G t = some (.tup xs)) : WC K W (rIsiT K) [a, .dt (.tup (ns.map U.ty))] ρ Q X := by
  rintro s vs Q0 rfl D _ h k
  obtain ⟨v, w, rfl, h1, h2⟩ := avs_two h
  have h2 : At K s.G w (.tup (ns.map U.ty)) := h2
  cases h2 with
  | tup hs hd => exact ⟨v, _, _, _, _, b, rfl, D.sub _ _ (hK _ _ _ hs hd), hd.cls, at_ty (view_at D h1 ha) p, e, k.dt D (.bl _) q⟩
theorem wc_all {a : Av} {bs : List Bool} {Q : Av → Sls → Prop} (ha : View ρ a (.lst (bs.map U.bl))) (q : Q (.dt (.bl (bs.all id))) ρ) : WC K W (rAll K) [a] ρ Q X := by
  rintro s vs Q0 rfl D _ h0 k
  obtain ⟨v, rfl, h⟩ := avs_one h0
  obtain ⟨l, xs, rfl, e1, q1⟩ := view_list D h ha
  obtain rfl := q1.scal (ys := bs.map V.bl) (by rw [List.map_map, List.map_map]; rfl)
  exact ⟨l, bs, rfl, SqL.of e1, k.dt D (.bl _) q⟩
theorem wc_any {a : Av} {bs : List Bool} {Q : Av → Sls → Prop} (ha : View ρ a (.lst (bs.map U.bl))) (q : Q (.dt (.bl (bs.any id))) ρ) : WC K W (rAny K) [a] ρ Q X := by
  rintro s vs Q0 rfl D _ h0 k
  obtain ⟨v, rfl, h⟩ := avs_one h0
  obtain ⟨l, xs, rfl, e1, q1⟩ := view_list D h ha
  obtain rfl := q1.scal (ys := bs.map V.bl) (by rw [List.map_map, List.map_map]; rfl)
  exact ⟨l, bs, rfl, SqL.of e1, k.dt D (.bl _) q⟩
theorem wc_sum {a : Av} {ns : List Int} {Q : Av → Sls → Prop} (ha : View ρ a (.lst (ns.map U.int))) (q : Q (.dt (.int ns.sum)) ρ) : WC K W (rSum K) [a] ρ Q X := by
  rintro s vs Q0 rfl D _ h0 k
  obtain ⟨v, rfl, h⟩ := avs_one h0
  obtain ⟨l, xs, rfl, e1, q1⟩ := view_list D h ha
  obtain rfl := q1.scal (ys := ns.map V.int) (by rw [List.map_map, List.map_map]; rfl)
  exact ⟨l, ns, rfl, SqL.of e1, k.dt D (.int _) q⟩
theorem wc_str {i : Int} {Q : Av → Sls → Prop} (l : i.natAbs.log2 < 1920) (q : Q (.dt (.str (toString i))) ρ) : WC K W (fun xs H Q => ∃ i, xs = [.int i] ∧ i.natAbs.log2 < 1920 ∧ Q (.str (toString i)) H) [.dt (.int i)] ρ Q X := by
  rintro s vs Q0 rfl D _ h0 k
  obtain ⟨v, rfl, h⟩ := avs_one h0
  rw [at_int h]
  exact ⟨i, rfl, l, k.dt D (.str _) q⟩
theorem wc_tuple {a : Av} {ds : List U} {Q : Av → Sls → Prop} (ha : View ρ a (.lst ds)) (q : Q (.dt (.tup ds)) ρ) :
    WC K W (fun xs H Q => ∃ p ys, xs = [.ref p] ∧ ((SqL K H p ys ∧ ∀ l, H l = none → Q (.ref l) (upd H l (.tup ys))) ∨ (SqT K H p ys ∧ Q (.ref p) H))) [a] ρ Q X := by
  rintro s vs Q0 rfl D _ h0 k
  obtain ⟨v, rfl, h⟩ := avs_one h0
  obtain ⟨l, xs, rfl, e1, q1⟩ := view_list D h ha
  exact ⟨l, xs, rfl, .inl ⟨SqL.of e1, fun p hp => k.tup D hp q1 q⟩⟩
theorem wc_list {a : Av} {ds : List U} {Q : Av → Sls → Prop} (ha : View ρ a (.lst ds) ∨ View ρ a (.tup ds)) (q : Q (.own (.lst ds)) ρ) :
    WC K W (fun xs H Q => ∃ p ys, xs = [.ref p] ∧ (SqL K H p ys ∨ SqT K H p ys) ∧ ∀ l, H l = none → Q (.ref l) (upd H l (.lst ys))) [a] ρ Q X := by
  rintro s vs Q0 rfl D _ h0 k
  obtain ⟨v, rfl, h⟩ := avs_one h0
  rcases ha with ha | ha
  · obtain ⟨l, xs, rfl, e1, q1⟩ := view_list D h ha
    exact ⟨l, xs, rfl, .inl (SqL.of e1), fun p hp => k.new D hp (.lst q1) q⟩
  · obtain ⟨l, xs, rfl, e1, q1⟩ := view_tup D h ha
    exact ⟨l, xs, rfl, .inr e1, fun p hp => k.new D hp (.lst q1) q⟩
/-- slices -/
def WO (K : PySem.W.Frag) (W : Wx) (t : TO) (ρ : Sls) (Q : Option Int → Sls → Prop) (X : Er → Sls → Prop) : Prop :=
  ∀ (s : Sta) (Q0 : Option Int → Hp → Prop), s.ρ = ρ → Den K s → XOk K s W X → (∀ o s', Nxt K s s' → Q o s'.ρ → Q0 o s'.H) → t s.σ s.H Q0
theorem wo_none {Q : Option Int → Sls → Prop} (q : Q none ρ) : WO K W tNoPart ρ Q X := by
  rintro s Q0 rfl D x k
  exact k none s (Nxt.refl D) q
theorem wo_some {t : TE} {Q : Option Int → Sls → Prop} (h : WE K W t ρ (fun a ρ1 => ∃ i, a = .dt (.int i) ∧ Q (some i) ρ1) X) : WO K W (tPart t) ρ Q X := by
  rintro s Q0 rfl D x k
  refine h s _ rfl D x fun v a s1 n ok ⟨i, e, q⟩ => ?_
  subst e
  have ok : At K s1.G v (.int i) := ok
  cases ok
  exact ⟨i, rfl, k (some i) s1 n q⟩
theorem we_sl {r : V → Option Int → Option Int → Hp → VK → Prop} {te : TE} {tl th : TO} {Q : Av → Sls → Prop}
    (h : WE K W te ρ (fun a ρ1 => WO K W tl ρ1 (fun l ρ2 => WO K W th ρ2 (fun u ρ3 => ∀ (s : Sta) (v : V) (Q0 : VK), s.ρ = ρ3 → Den K s → AvOk K s s v a.fl → Cnt K s Q Q0 → r v l u s.H Q0) X) X) X) : WE K W (tSl r te tl th) ρ Q X := by
  rintro s Q0 rfl D x k
  refine WE.flat (Q := fun a ρ1 => WO K W tl ρ1 (fun l ρ2 => WO K W th ρ2 (fun u ρ3 => ∀ (s : Sta) (v : V) (Q0 : VK), s.ρ = ρ3 → Den K s → AvOk K s s v a → Cnt K s Q Q0 → r v l u s.H Q0) X) X) h rfl D x fun v a s1 n1 f ok q1 => ?_
  show tl s.σ s1.H _
  rw [← n1.slots]
  refine q1 s1 _ rfl n1.den (x.next n1.stp) fun l s2 n2 q2 => ?_
  show th s1.σ s2.H _
  rw [← n2.slots]
  refine q2 s2 _ rfl n2.den (x.next (n1.trans n2).stp) fun u s3 n3 q3 => ?_
  exact q3 s3 v Q0 rfl n3.den ((AvOk.next f (n2.trans n3) ok).self f) (k.lift (n1.trans (n2.trans n3)))
def cutU (xs : List U) (lo hi : Option Int) : List U := (xs.drop (HT.sIx xs.length 0 lo)).take (HT.sIx xs.length xs.length hi - HT.sIx xs.length 0 lo)
theorem sl_L {a : Av} {ds : List U} {l u : Option Int} {Q : Av → Sls → Prop} {ρ3 : Sls} (ha : View ρ3 a (.lst ds)) (q : Q (.own (.lst (cutU ds l u))) ρ3) : ∀ (s : Sta) (v : V) (Q0 : VK), s.ρ = ρ3 → Den K s → AvOk K s s v a → Cnt K s Q Q0 → rSlL K v l u s.H Q0 := by
  rintro s v Q0 rfl D h k
  obtain ⟨p, xs, rfl, e1, q1⟩ := view_list D h ha
  refine ⟨p, xs, rfl, SqL.of e1, fun b hb => k.new D hb (.lst ?_) q⟩
  unfold cutV cutU
  rw [q1.length]
  exact (q1.drop _).take _
theorem sl_S {z : Str} {l u : Option Int} {Q : Av → Sls → Prop} {ρ3 : Sls} (hz : z.length ≤ 100000) (q : Q (.dt (.str (cutS z l u))) ρ3) : ∀ (s : Sta) (v : V) (Q0 : VK), s.ρ = ρ3 → Den K s → AvOk K s s v (.dt (.str z)) → Cnt K s Q Q0 → rSlS v l u s.H Q0 := by
  rintro s v Q0 rfl D h k
  rw [at_str h]
  exact ⟨z, rfl, Nat.le_trans hz (by decide), k.dt D (.str _) q⟩
/-! ### lists written -/
theorem ws_append {i : Nat} {t : TA} (h : WA K W t ρ (fun as ρ1 => ∃ d ρ2 sl ds, Frz ρ1 as [d] ρ2 ∧ ρ2[i]? = some sl ∧ sl.cell = some (.lst ds) ∧ ds.length < 100000 ∧ P.nx (setC ρ2 i (.lst (ds ++ [d])))) P.xc)
    (hc : ∃ sl ds, ρ[i]? = some sl ∧ sl.cell = some (.lst ds)) : WS K W (tDrop (tBM K "list" rAppend (tVar i) t)) ρ P := by
  rintro s D rfl d x f
  obtain ⟨sl, ds, e, c⟩ := hc
  obtain ⟨a, o, e1, e2, e3, e4⟩ := d.own i sl _ e c
  refine ⟨.ref a, e1, ?_, ?_⟩
  · cases e4 with
    | lst _ => exact .inl ⟨rfl, _, SqL.of e3⟩
  · refine h s _ rfl d x fun vs as s1 n1 ok ⟨z, ρ2, sl', ds', hf, q1, q2, q3, q⟩ => ?_
    obtain ⟨s2, e5, e6, n2, hz⟩ := hf.run rfl n1.den ok
    cases hz with
    | cons hz ht =>
      cases ht
      have n12 := n1.trans n2
      subst e5
      obtain ⟨a', o', e7, e8, e9, e10⟩ := n2.den.own i sl' _ q1 q2
      have e7' : s2.σ[i]? = some (some (.ref a)) := by rw [n12.slots]; exact e1
      rw [e7'] at e7
      cases e7
      cases e10 with
      | lst hx =>
        rename_i xs
        rw [← e6]
        refine ⟨a, xs, _, rfl, rfl, e9, Nat.lt_of_lt_of_le (by rw [hx.length]; exact q3) (by decide), ?_⟩
        have nw := cell_write (o' := .lst (xs ++ [_])) (d' := .lst (ds' ++ [z])) n2.den q1 q2 e7' e9 (.lst (hx.snoc hz))
        have := f.nx _ (n12.stp.trans nw.stp) nw.den q
        rw [show ({ s2 with ρ := setC s2.ρ i (.lst (ds' ++ [z])), H := upd s2.H a (.lst (xs ++ [_])) } : Sta).σ = s.σ from n12.slots] at this
        exact this
theorem ws_setL {j : Nat} {te ti : TE} (h : WE K W te ρ (fun a ρ1 => ∃ d ρ2, Frz ρ1 [a.fl] [d] ρ2 ∧ (∃ sl ds, ρ2[j]? = some sl ∧ sl.cell = some (.lst ds)) ∧ WE K W ti ρ2 (fun b ρ3 => ∃ i m sl ds, b = .dt (.int i) ∧ ρ3[j]? = some sl ∧ sl.cell = some (.lst ds) ∧ ixN ds.length i = some m ∧ P.nx (setC ρ3 j (.lst (ds.set m d)))) P.xc) P.xc) :
    WS K W (tAsg te (gSub (tVar j) ti rSetL)) ρ P := by
  rintro s D rfl d x f
  refine WE.flat (Q := fun a ρ1 => ∃ d ρ2, Frz ρ1 [a] [d] ρ2 ∧ (∃ sl ds, ρ2[j]? = some sl ∧ sl.cell = some (.lst ds)) ∧ WE K W ti ρ2 (fun b ρ3 => ∃ i m sl ds, b = .dt (.int i) ∧ ρ3[j]? = some sl ∧ sl.cell = some (.lst ds) ∧ ixN ds.length i = some m ∧ P.nx (setC ρ3 j (.lst (ds.set m d)))) P.xc) h rfl d x fun v a s1 n1 fa ok ⟨z, ρ2, hf, hc, q⟩ => ?_
  obtain ⟨s2, e1, e2, n2, hz⟩ := frz1 hf fa n1.den ok
  subst e1
  obtain ⟨sl, ds, c1, c2⟩ := hc
  obtain ⟨b, o, e3, e4, e5, e6⟩ := n2.den.own j sl _ c1 c2
  have n12 := n1.trans n2
  have eσ : s.σ[j]? = some (some (.ref b)) := by rw [← n12.slots]; exact e3
  refine ⟨.ref b, eσ, ?_⟩
  rw [← e2, ← n12.slots]
  refine q s2 _ rfl n2.den (x.next n12.stp) fun w bv s3 n3 ok3 ⟨i, m, sl', ds', eb, c3, c4, c5, q3⟩ => ?_
  subst eb
  have ok3 : At K s3.G w (.int i) := ok3
  cases ok3
  obtain ⟨b', o', e7, e8, e9, e10⟩ := n3.den.own j sl' _ c3 c4
  have e7' : s3.σ[j]? = some (some (.ref b)) := by rw [n3.slots]; exact e3
  rw [e7'] at e7
  cases e7
  cases e10 with
  | lst hx =>
    rename_i xs
    refine ⟨b, xs, i, m, rfl, rfl, e9, by rw [hx.length]; exact c5, ?_⟩
    have nw := cell_write (o' := .lst (xs.set m v)) (d' := .lst (ds'.set m z)) n3.den c3 c4 e7' e9 (.lst (hx.set m (At.mono n3.stp.sub _ _ hz)))
    have := f.nx _ (n12.stp.trans (n3.stp.trans nw.stp)) nw.den q3
    rw [show ({ s3 with ρ := setC s3.ρ j (.lst (ds'.set m z)), H := upd s3.H b (.lst (xs.set m v)) } : Sta).σ = s2.σ from n3.slots] at this
    exact this
theorem ws_par {i j : Nat} {ta : TA} (h : WA K W ta ρ (fun as ρ1 => ∃ d e ρ2, Frz ρ1 as [d, e] ρ2 ∧ nb ρ2 i = true ∧ nb ρ2 j = true ∧ P.nx ((ρ2.set i (.val d)).set j (.val e))) P.xc) : WS K W (tPar i j ta) ρ P := by
  rintro s D rfl d x f
  refine h s _ rfl d x fun vs as s1 n1 ok ⟨z, w, ρ2, hf, b1, b2, q⟩ => ?_
  obtain ⟨s2, e1, e2, n2, hz⟩ := hf.run rfl n1.den ok
  subst e1
  cases hz with
  | cons hz ht =>
    cases ht with
    | cons hw ht =>
      cases ht
      refine ⟨_, _, rfl, ?_⟩
      obtain ⟨st3, d3⟩ := put_val n2.den b1 hz
      obtain ⟨st4, d4⟩ := put_val (i := j) d3 (nb_set b2) hw
      rw [← e2]
      have := f.nx _ ((n1.trans n2).stp.trans (st3.trans st4)) d4 q
      rw [show ({ s2 with ρ := (s2.ρ.set i (.val z)).set j (.val w), σ := (s2.σ.set i (some _)).set j (some _) } : Sta).σ = (s.σ.set i (some _)).set j (some _) from by rw [← (n1.trans n2).slots]] at this
      exact this
end
theorem put_dt {i : Nat} {d : U} {ρ : Sls} {N : Sls → Prop} (h : nb ρ i = true) (q : N (ρ.set i (.val d))) : Put i (.dt d) ρ N := ⟨h, q⟩
theorem put_new {i : Nat} {d : U} {ρ : Sls} {N : Sls → Prop} (h : nb ρ i = true) (q : N (ρ.set i (.own d))) : Put i (.own d) ρ N := ⟨h, q⟩
theorem put_mv {i j : Nat} {d : U} {ρ : Sls} {N : Sls → Prop} (h : nb ρ i = true) (e : ρ[j]? = some (.own d)) (q : N ((ρ.set j (.val d)).set i (.val d))) : Put i (.sl j) ρ N := ⟨h, .inl ⟨d, e, q⟩⟩
theorem rt_dt {d : U} {ρ : Sls} {N : Av → Sls → Prop} (q : N (.dt d) ρ) : Rt (.dt d) ρ N := q
theorem rt_new {d : U} {ρ : Sls} {N : Av → Sls → Prop} (q : N (.own d) ρ) : Rt (.own d) ρ N := q
theorem rt_own {i : Nat} {d : U} {ρ : Sls} {N : Av → Sls → Prop} (e : ρ[i]? = some (.own d)) (q : N (.own d) (ρ.set i .un)) : Rt (.sl i) ρ N := .inl ⟨d, e, q⟩
/-- a def's promise has as many arguments as slots -/
theorem spU_len {K : PySem.W.Frag} {R : RU} {vs : List V} {H : Hp} {Q : VK} {E : XK} {n : Nat} (h : spU K R vs H Q E) (hn : ∀ ρ Q X, R ρ Q X → ρ.length = n) : vs.length = n := by
  obtain ⟨G, ρ, D, _, h⟩ := h
  have e := D.len
  rw [List.length_map] at e
  exact e.trans (hn _ _ _ h)
/-- THE RULE for a def that lets nothing out, by data -/
theorem Fun_okU {P : Program} {w : World} {K : PySem.W.Frag} {mg : Str → Option Value} {base : Heap} {x qual : Str} {st : Stmt} {f : Addr} {fd : FuncData} {N ps : List Str} {k : Nat} {R : RU} (F : Fun K x qual st f fd) (S : FnScope N ps (defScope st)) (hn : ∀ ρ Q X, R ρ Q X → ρ.length = ps.length)
    (hbody : ∀ (cdv : Value) (A : Around) (outer : List PySem.Env) (s : Shared) (H : Hp) (E : XK), Room k (A.deeper (envOfC qual (defScope st) s.heap.objs.size f cdv)) →
      ∃ t, PSs (cxOf CX0 P w K mg base N qual (defScope st) f cdv A outer s H E).nox (defBody st) t ∧
        ∀ (W : Wx) (ρ : Sls) (Qd : Av → Sls → Prop) (Xd : Er → Sls → Prop), R ρ Qd Xd →
          WS K W t (ρ ++ List.replicate (N.length - ps.length) .un) { nx := fun ρ' => Qd (.dt .non) (out ρ ρ'), rt := fun a ρ' => a.ns ∧ Qd a (out ρ ρ'), xc := fun e ρ' => Xd e (out ρ ρ') }) :
    FnOk P w K mg base CX0 (k + 1) f fd ps (spU K R) := by
  refine F.ok S (fun vs H Q E h => spU_len h hn) (fun cdv A outer s H vs Q E hr h => ?_)
  obtain ⟨t, ht, hw⟩ := hbody cdv A outer s H E hr
  refine ⟨t, ht, body_U h fun ρ Qd Xd hl hR => ?_⟩
  have e : vs.length = ps.length := hl.symm.trans (hn _ _ _ hR)
  rw [e]
  exact hw _ ρ Qd Xd hR
/-- .. for a def that may raise -/
theorem Fun_okUX {P : Program} {w : World} {K : PySem.W.Frag} {mg : Str → Option Value} {base : Heap} {x qual : Str} {st : Stmt} {f : Addr} {fd : FuncData} {N ps : List Str} {k : Nat} {R : RU} (F : Fun K x qual st f fd) (S : FnScope N ps (defScope st)) (hn : ∀ ρ Q X, R ρ Q X → ρ.length = ps.length)
    (hbody : ∀ (cdv : Value) (A : Around) (outer : List PySem.Env) (s : Shared) (H : Hp) (E : XK), Room k (A.deeper (envOfC qual (defScope st) s.heap.objs.size f cdv)) →
      ∃ t, PSs (cxOf (L2.CX P w) P w K mg base N qual (defScope st) f cdv A outer s H E) (defBody st) t ∧
        ∀ (ρ : Sls) (Qd : Av → Sls → Prop) (Xd : Er → Sls → Prop), R ρ Qd Xd →
          WS K (fun cls dd _ H' => E cls dd H') t (ρ ++ List.replicate (N.length - ps.length) .un) { nx := fun ρ' => Qd (.dt .non) (out ρ ρ'), rt := fun a ρ' => a.ns ∧ Qd a (out ρ ρ'), xc := fun e ρ' => Xd e (out ρ ρ') }) :
    FnOk P w K mg base (L2.CX P w) (k + 1) f fd ps (spU K R) := by
  refine F.okX S (fun vs H Q E h => spU_len h hn) (fun cdv A outer s H vs Q E hr h => ?_)
  obtain ⟨t, ht, hw⟩ := hbody cdv A outer s H E hr
  refine ⟨t, ht, body_U h fun ρ Qd Xd hl hR => ?_⟩
  have e : vs.length = ps.length := hl.symm.trans (hn _ _ _ hR)
  rw [e]
  exact hw ρ Qd Xd hR
/-! ### the same, reckoned -/
def frzC : Sls → List Av → Option (List U × Sls)
  | ρ, [] => some ([], ρ)
  | ρ, .dt d :: as => match frzC ρ as with
    | some (ds, ρ') => some (d :: ds, ρ')
    | none => none
  | ρ, .sl i :: as => match ρ[i]? with
    | some (.own d) => (match frzC (ρ.set i (.val d)) as with
      | some (ds, ρ') => some (d :: ds, ρ')
      | none => none)
    | some (.val d) => (match frzC ρ as with
      | some (ds, ρ') => some (d :: ds, ρ')
      | none => none)
    | _ => none
  | _, .own _ :: _ => none
theorem frzC_ok : ∀ {as : List Av} {ρ ρ' : Sls} {ds : List U}, frzC ρ as = some (ds, ρ') → Frz ρ as ds ρ'
  | [], _, _, _, h => by
    cases (show some _ = some _ from h)
    exact .nil
  | .dt d :: as, ρ, ρ', ds, h => by
    unfold frzC at h
    cases e : frzC ρ as with
    | none => rw [e] at h; cases h
    | some p =>
      rw [e] at h
      cases (show some _ = some _ from h)
      exact .dt (frzC_ok (as := as) e)
  | .sl i :: as, ρ, ρ', ds, h => by
    unfold frzC at h
    split at h
    · rename_i d e0
      cases e : frzC (ρ.set i (.val d)) as with
      | none => rw [e] at h; cases h
      | some p =>
        rw [e] at h
        cases (show some _ = some _ from h)
        exact .sl e0 (frzC_ok (as := as) e)
    · rename_i d e0
      cases e : frzC ρ as with
      | none => rw [e] at h; cases h
      | some p =>
        rw [e] at h
        cases (show some _ = some _ from h)
        exact .va e0 (frzC_ok (as := as) e)
    · cases h
  | .own _ :: _, _, _, _, h => nomatch h
/-- operands as arguments; of own objects it is said whether they are lent (true) or frozen -/
def pasC : Sls → List Av → List Bool → Option (List Arg × Sls)
  | ρ, [], _ => some ([], ρ)
  | ρ, .dt d :: as, _ :: ms => match pasC ρ as ms with
    | some (gs, ρ') => some (.va d :: gs, ρ')
    | none => none
  | ρ, .sl i :: as, true :: ms => match pasC ρ as ms with
    | some (gs, ρ') => (match ρ'[i]? with
      | some (.own d) => some (.bo i d :: gs, ρ')
      | some (.bor d) => some (.bo i d :: gs, ρ')
      | _ => none)
    | none => none
  | ρ, .sl i :: as, false :: ms => match ρ[i]? with
    | some (.own d) => (match pasC (ρ.set i (.val d)) as ms with
      | some (gs, ρ') => some (.va d :: gs, ρ')
      | none => none)
    | some (.val d) => (match pasC ρ as ms with
      | some (gs, ρ') => some (.va d :: gs, ρ')
      | none => none)
    | _ => none
  | _, _, _ => none
theorem pasC_ok : ∀ {as : List Av} {ms : List Bool} {ρ ρ' : Sls} {gs : List Arg}, pasC ρ as ms = some (gs, ρ') → Pas ρ as gs ρ'
  | [], ms, ρ, ρ', gs, h => by
    cases ms <;> (cases (show some (([] : List Arg), ρ) = some (gs, ρ') from h); exact .nil)
  | .dt d :: as, [], _, _, _, h => nomatch h
  | .sl i :: as, [], _, _, _, h => nomatch h
  | .own _ :: as, [], _, _, _, h => nomatch h
  | .own _ :: as, _ :: _, _, _, _, h => nomatch h
  | .dt d :: as, m :: ms, ρ, ρ', gs, h => by
    unfold pasC at h
    cases e : pasC ρ as ms with
    | none => rw [e] at h; cases h
    | some p =>
      rw [e] at h
      cases (show some _ = some _ from h)
      exact .dt (pasC_ok (as := as) e)
  | .sl i :: as, true :: ms, ρ, ρ', gs, h => by
    unfold pasC at h
    cases e : pasC ρ as ms with
    | none => rw [e] at h; cases h
    | some p =>
      obtain ⟨gs2, ρ2⟩ := p
      rw [e] at h
      dsimp only at h
      split at h
      · rename_i d e0
        cases (show some _ = some _ from h)
        exact .bo (pasC_ok (as := as) e) e0 rfl
      · rename_i d e0
        cases (show some _ = some _ from h)
        exact .bo (pasC_ok (as := as) e) e0 rfl
      · cases h
  | .sl i :: as, false :: ms, ρ, ρ', gs, h => by
    unfold pasC at h
    split at h
    · rename_i d e0
      cases e : pasC (ρ.set i (.val d)) as ms with
      | none => rw [e] at h; cases h
      | some p =>
        rw [e] at h
        cases (show some _ = some _ from h)
        exact .fz e0 (pasC_ok (as := as) e)
    · rename_i d e0
      cases e : pasC ρ as ms with
      | none => rw [e] at h; cases h
      | some p =>
        rw [e] at h
        cases (show some _ = some _ from h)
        exact .va e0 (pasC_ok (as := as) e)
    · cases h
theorem callU {R : RU} {avs : List Av} {ρ : Sls} {Q : Av → Sls → Prop} {X : Er → Sls → Prop} (ms : List Bool) {gs : List Arg} {ρ1 : Sls} (h : pasC ρ avs ms = some (gs, ρ1)) (s : sep gs = true)
    (k : ∀ (Q' : Av → Sls → Prop) (X' : Er → Sls → Prop), (∀ a r, Q a (upds ρ1 gs r) → Q' a r) → (∀ e r, X e (upds ρ1 gs r) → X' e r) → R (gs.map Arg.slot) Q' X') : CallU R avs ρ Q X := ⟨gs, ρ1, pasC_ok h, s, k⟩
theorem wc_lenS {K : PySem.W.Frag} {W : Wx} {X : Er → Sls → Prop} {ρ : Sls} {z : Str} {Q : Av → Sls → Prop} (h : z.length ≤ 100000) (q : Q (.dt (.int (z.length : Nat))) ρ) : WC K W (fun xs H Q => ∃ x n, xs = [x] ∧ LenV K x H n ∧ Q (.int n) H) [.dt (.str z)] ρ Q X :=
  wc_len (d := .str z) rfl (by show (if z.length ≤ 100000 then some z.length else none) = _; exact if_pos h) q

/-! ### errors that are kept behind their handler -/
theorem exK_ok {P : Program} {w : World} {H : Hp} {g : Heap} {a : Addr} {cls : Value} {dd : Option Addr} {ob : Obj} {fl : Array Value} (e : g.get? a = some ob) (z : Zc cls dd ob) (f : ob.data = .fields fl) : ObjOk P w H g a (ExK cls dd a) :=
  ⟨⟨ob, fl, e, z, f⟩, ⟨ob, e⟩, fun _ _ ⟨o, v, q, r⟩ kp => ⟨o, v, kp o q, r⟩⟩
section
variable {X : Cx} {pins : List (Addr × Obj)} {σ : L2.St} {H : Hp} {s : Shared}
/-- an object that stands untracked is tracked from now on -/
theorem inv_track {a : Addr} {o : HO} (I : L2.Inv X pins σ H s) (hn : H a = none) (h0 : X.s_0.heap.get? a = none) (hL : a ≠ X.env.locals) (hC : ∀ x c, X.env.cells.lookup x = some c → c ≠ a) (hP : ∀ p ∈ X.pn ++ pins, p.1 ≠ a)
    (new : ObjOk X.prog X.w (upd H a o) s.heap a o) : L2.Inv X pins σ (upd H a o) s := by
  have kp : ∀ b u, s.heap.get? b = some u → s.heap.get? b = some u := fun _ _ q => q
  have B := I.base
  refine ⟨I.ok, I.os, I.bare, ⟨fun b u q n => B.keep b u q n, fun b u q n => B.slot b u q n, fun b u q n hx => ?_, B.there, fun b xs q => ?_, fun b u v q => ?_, fun b ps q => ?_⟩, I.loc, I.cell, ?_, fun x c q => ?_, fun p hp => ?_, I.hok.laidN kp hn new, I.len⟩
  · rw [upd_ne (fun z => by rw [z, h0] at q; cases q)]
    exact B.free b u q n hx
  · have r := B.tups b xs q
    rw [upd_ne (ne_of_none r hn)]
    exact r
  · have r := B.frzs b u v q
    rw [upd_ne (ne_of_none r hn)]
    exact r
  · obtain ⟨more, r⟩ := B.tbls b ps q
    exact ⟨more, by rw [upd_ne (ne_of_none r hn)]; exact r⟩
  · rw [upd_ne (Ne.symm hL)]
    exact I.free
  · rw [upd_ne (hC x c q)]
    exact I.freeC x c q
  · obtain ⟨q1, q2, q3⟩ := I.pin p hp
    exact ⟨q1, by rw [upd_ne (hP p hp)]; exact q2, q3⟩
/-- what 'except x as n' wishes of an error, which is kept behind the suite -/
def wKeep (K : PySem.W.Frag) (c : Value) (i : Nat) (ts : Addr → Value → Option Addr → TS) (Wo : WX) (D : Ends) : WX := fun cls dd σ H =>
  ∃ b, PySem.W.exmOne K cls c = some b ∧ (b = false → Wo cls dd σ H) ∧
    (b = true → ∀ a, H a = none → ts a cls dd { nx := fun σ2 H2 => H2 a = none → D.nx (σ2.set i none) (upd H2 a (ExK cls dd a)), rt := fun v H2 => H2 a = none → D.rt v (upd H2 a (ExK cls dd a)), bk := fun σ2 H2 => H2 a = none → D.bk (σ2.set i none) (upd H2 a (ExK cls dd a)), ct := fun σ2 H2 => H2 a = none → D.ct (σ2.set i none) (upd H2 a (ExK cls dd a)) } (σ.set i (some (.ref a))) H)
end
section
variable {X : Cx} {x n : Str} {c : Value} {i : Nat} {body suite : List Stmt} {first : Stmt} {np p1 p2 : Pos} {tb : WX → TS} {ts : Addr → Value → Option Addr → TS} {Wo : WX}
theorem ps_try_keep (hex : X.ex = []) (hst : X.stack = X.env :: X.outer) (hfr : X.env.frame = some X.env.locals) (nd : X.N.Nodup) (hi : X.N[i]? = some n) (hk : X.env.kindOf n = some .local) (hc : Names X x c) (tk : Takes X Wo)
    (hb : ∀ (W : WX) (pn : List (Addr × Obj)) (xe : Value → Shared → Prop), Takes (X.tr pn xe) W → PassesOwn (model X.prog X.w) X.A X.env xe → PSs (X.tr pn xe) body (tb W))
    (hsu : ∀ (a : Addr) (ob : Obj) (cls : Value) (dd : Option Addr) (pn : List (Addr × Obj)), Zc cls dd ob → (∃ fl, ob.data = .fields fl) → PSs (X.suite a ((a, ob) :: pn)) (first :: suite) (ts a cls dd)) :
    PS X (.Try body [.ExceptHandler (some (.Name x np)) (some n) (first :: suite) p1] [] [] p2) (fun D σ H => tb (wKeep X.K c i ts Wo D) D σ H) := by
  refine ⟨fun pins s σ H D I red => ?_⟩
  have okX := I.ok
  have frames : X.A.frames = some (X.env :: X.outer) := okX.frames.trans (congrArg some hst)
  let air : Value → Shared → Prop := fun e s1 => wpAny (model X.prog X.w) X.A (noteFrame e X.env) (fun _ s2 => wpAny (model X.prog X.w) X.A (setFlight e none)
    (fun _ s3 => wpAny (model X.prog X.w) X.A (handleBy e X.env [.ExceptHandler (some (.Name x np)) (some n) (first :: suite) p1]) (SP X pins D) X.xe s3) X.xe s2) X.xe s1
  have caught : Takes (X.tr (X.pn ++ pins) air) (wKeep X.K c i ts Wo D) := by
    rintro u s1 ⟨a, B, sI, pins2, σ1, H1, cls, dd, rfl, J0, nb, up, sky, na, os, ag, b, hb1, hno, hyes⟩
    have J : L2.Inv X pins σ1 H1 sI := J0.ofTry okX
    have sky2 : Sky B (X.env :: X.outer) a (Zc cls dd) X.env.locals s1.heap := hst ▸ sky
    show wpAny (model X.prog X.w) X.A (noteFrame (.ref a) X.env) _ _ _
    refine Sky.land Zc.steady frames hfr sky2 fun h3 fl3 up3 => ?_
    have J3 : L2.Inv X pins σ1 H1 { s1 with heap := h3 } := J.landed nb fl3.1 (up.trans up3) os ag
    obtain ⟨o3, v3, e3, z3, d3⟩ := fl3.there
    have off : a ∉ frs (X.env :: X.outer) := fun hm => by
      obtain ⟨_, o, e, nf⟩ := fl3.2.2.1.mem hm
      rw [e3] at e
      cases e
      exact nf _ d3
    have offL : a ≠ X.env.locals := fun z => off (List.mem_filterMap.mpr ⟨X.env, List.mem_cons_self, hfr.trans (congrArg some z.symm)⟩)
    have offF : a ∉ X.fs := fun hm => by
      obtain ⟨e, h1, h2⟩ := List.mem_filterMap.mp hm
      exact off (List.mem_filterMap.mpr ⟨e, List.mem_cons_of_mem _ h1, h2⟩)
    have gB : B.get? a = none := fl3.2.1
    have new0 : X.s_0.heap.get? a = none := by
      cases q : X.s_0.heap.get? a with
      | none => rfl
      | some o =>
        obtain ⟨o', q2⟩ := J.base.there a o q (by rw [hex]; exact nofun)
        have := nb a o' q2 (by rw [hst]; exact off)
        rw [gB] at this
        cases this
    have offP : ∀ p ∈ X.pn ++ pins, p.1 ≠ a := fun p hp z => by
      obtain ⟨q1, _⟩ := J.pin p hp
      rw [z] at q1
      have := nb a _ q1 (by rw [hst]; exact off)
      rw [gB] at this
      cases this
    have S3 := J3.suite e3 d3 na offL offF
    refine wpAny_handleBy_cons (codeAny_handlers_test ?_) (by intro q; cases q)
    have ofT : PySem.W.Looks (model X.prog X.w) h3 (typeOf (.ref a)) cls := fun A Q E s kk q => wpAny_typeOf_ref (kk _ _ e3) (by rw [z3.1]; exact q)
    have fits := PySem.W.exm_one (M := model X.prog X.w) (J3.kIn) ofT hb1
    have clause : ∀ {Q : Value → Shared → Prop} {E : Value → Shared → Prop}, Q c { s1 with heap := h3 } → wpAny (model X.prog X.w) (X.A.mark (some (.ref a))) (eval (.Name x np) X.env) Q E { s1 with heap := h3 } := by
      intro Q E q
      obtain ⟨hg, hdb, hm⟩ := hc
      rcases hm with hm | ⟨hm, hv, hnn⟩
      · exact ld_glob (X := X.suite a ((a, o3) :: (X.pn ++ pins))) S3 hg hm q hdb
      · exact ld_blt (X := X.suite a ((a, o3) :: (X.pn ++ pins))) S3 hg hm hv q hnn hdb
    refine clause (fits.here ?_)
    cases b with
    | false =>
      show wpAny _ X.A (handleBy (.ref a) X.env []) _ _ _
      refine wpAny_handleBy_nil ?_
      obtain ⟨_, _, _, ob, fl, T, oT, _, g1, g2, g3, g4, _⟩ := id fl3
      unfold PySem.passOn
      refine wpAny_bind (wpAny_field g1 g3 g4 ?_)
      rw [if_neg (show ¬ ((Value.ref T == Value.none) = true) from by simp)]
      have on : wpAny (model X.prog X.w) X.A (setFlight (.ref a) X.env.frame) (fun _ s4 => wpAny (model X.prog X.w) X.A (throw (.ref a) : Sem Flow) (SP X pins D) X.xe s4) X.xe { s1 with heap := h3 } := by
        rw [hfr]
        refine HandSPX.setFlight_upZ fl3 fun h4 held up4 => wpAny_throw (tk _ _ ?_)
        exact ⟨a, B, sI, pins, σ1, H1, cls, dd, rfl, J, nb, (up.trans up3).trans up4, .inr (.inr (hst ▸ held)), na, os, ag, hno rfl⟩
      first
        | exact wpAny_bind (wpAny_pure (wpAny_bind on))
        | exact wpAny_bind on
    | true =>
      refine codeAny_handlers_suite_as ?_
      refine HandSPX.lands_againZ fl3 fun h4 fl4 up4 => ?_
      have J4 : L2.Inv X pins σ1 H1 { s1 with heap := h4 } := J.landed nb fl4.1 ((up.trans up3).trans up4) os ag
      obtain ⟨o4, v4, e4, z4, d4⟩ := fl4.there
      have S4 := J4.suite e4 d4 na offL offF
      refine store_ok (X := X.suite a ((a, o4) :: (X.pn ++ pins))) (v := .ref a) S4 nd hi (.inl hk) rfl (fun s5 S5 => ?_) (.inr hk)
      refine wpAny_mono ((hsu a o4 cls dd (X.pn ++ pins) z4 ⟨_, d4⟩).run [] s5 _ H1 _ S5 (hyes rfl a na)) (fun f s6 got => ?_) (fun _ _ z => False.elim z)
      have keep : ∀ {σ6 : L2.St} {H6 : Hp}, L2.Inv (X.suite a ((a, o4) :: (X.pn ++ pins))) [] σ6 H6 s6 → H6 a = none ∧ L2.Inv X pins σ6 (upd H6 a (ExK cls dd a)) s6 := fun {σ6 H6} S6 => by
        obtain ⟨q1, q2, _⟩ := S6.pin (a, o4) (List.mem_append_left _ List.mem_cons_self)
        refine ⟨q2, inv_track (S6.unsuite okX) q2 new0 offL (fun y cc hy z => ?_) offP (exK_ok q1 z4 d4)⟩
        obtain ⟨v, ob, g1, g2⟩ := S6.cell y cc hy
        rw [z, q1] at g1
        cases g1
        rw [show o4.data = _ from d4] at g2
        cases g2
      have close : ∀ {σ6 : L2.St} {H6 : Hp} {R : Shared → Prop}, L2.Inv X pins σ6 H6 s6 → (∀ s7, L2.Inv X pins (σ6.set i none) H6 s7 → R s7) →
          wpAny (model X.prog X.w) X.A (do bindName X.env n .none; unbindBehindTheSuite X.env n p1) (fun _ s7 => R s7) X.xe s6 := fun {σ6 H6 R} I6 hq => gone_ok I6 nd hi hk hq
      cases f with
      | ret u =>
        obtain ⟨v6, σ6, H6, S6, r6, q6⟩ := got
        obtain ⟨k1, k2⟩ := keep S6
        exact close k2 fun s7 J7 => ⟨_, _, _, J7, r6, q6 k1⟩
      | next =>
        obtain ⟨σ6, H6, S6, q6⟩ := got
        obtain ⟨k1, k2⟩ := keep S6
        exact close k2 fun s7 J7 => ⟨_, _, J7, q6 k1⟩
      | brk =>
        obtain ⟨σ6, H6, S6, q6⟩ := got
        obtain ⟨k1, k2⟩ := keep S6
        exact close k2 fun s7 J7 => ⟨_, _, J7, q6 k1⟩
      | cont =>
        obtain ⟨σ6, H6, S6, q6⟩ := got
        obtain ⟨k1, k2⟩ := keep S6
        exact close k2 fun s7 J7 => ⟨_, _, J7, q6 k1⟩
  refine wpAny_Try_except ?_
  refine wpAny_mono ((hb (wKeep X.K c i ts Wo D) (X.pn ++ pins) air caught PassesOwn.looking).run [] s σ H D (I.toTry _) red) (fun f s1 got => ?_) (fun e s1 he => he)
  cases f with
  | ret u =>
    obtain ⟨v, σ1, H1, J1, r1, q1⟩ := got
    exact ⟨v, σ1, H1, J1.ofTry okX, r1, q1⟩
  | next =>
    obtain ⟨σ1, H1, J1, q1⟩ := got
    exact wpAny_execs_nil ⟨σ1, H1, J1.ofTry okX, q1⟩
  | brk =>
    obtain ⟨σ1, H1, J1, q1⟩ := got
    exact ⟨σ1, H1, J1.ofTry okX, q1⟩
  | cont =>
    obtain ⟨σ1, H1, J1, q1⟩ := got
    exact ⟨σ1, H1, J1.ofTry okX, q1⟩
end
/-! ### a kept error's field -/
def tXfK (C : Addr) (f : Str) (te : TE) : TE := fun σ H Q => te σ H fun y H1 => ∃ (a dd : Addr) (fs : List (Str × V)) (v : V), y = .ref a ∧ H1 a = some (ExK (.ref C) (some dd) a) ∧ H1 dd = some (.xd fs) ∧ fs.lookup f = some v ∧ Q v H1
theorem pe_xfK {X : Cx} {C : Addr} {e : Expr} {te : TE} {pos : Pos} {n : Str} (T : XfC X.K C) (hno : PySem.W.findIn X.K (.ref C) n = some none) (he : PE X e te) (hb : attributeBase e n X.env (eval e X.env) = eval e X.env := by rfl) : PE X (.Attribute e n pos) (tXfK C n te) := by
  refine ⟨fun pins s σ H Q I h => attr_of hb (thn (he.run pins s σ H _ I h) fun u s1 hh => ?_)⟩
  obtain ⟨y, H1, I1, ry, a, dd, fs, v, rfl, ea, ed, l, q⟩ := hh
  obtain rfl : u = Value.ref a := ry
  obtain ⟨⟨ob, fl, g1, g2, g3⟩, _, _⟩ := I1.hok a _ ea
  obtain ⟨mA, ns, rel⟩ := (I1.hok dd _ ed : ObjOk X.prog X.w H1 s1.heap dd (.xd fs))
  obtain ⟨od, ho, hl⟩ := lookIn_ns ns
  obtain ⟨z, hz, rz⟩ := RelO.some_of (v := v) (o := mA n) (by rw [← l]; exact rel n)
  have inst : PySem.W.InstAt s1.heap a ob C (some od) := ⟨g1, g2.1, by unfold PySem.W.notCls; rw [g3] <;> rfl, by rw [g2.2]; exact ho⟩
  exact HandSPX.exc_get I1.kIn inst T.ga T.gg T.exC (PySem.W.findObj_own T.hdC hno rfl (by rw [hl, hz])) (handed_of rz) ⟨v, H1, I1.tok _, rz, q⟩

theorem small200 {j : Int} (h0 : 0 < j) (h : j < 2 ^ 200) : j.natAbs < 2 ^ 200 := by
  have e : ((2 : Int) ^ 200) = ((2 ^ 200 : Nat) : Int) := by decide +kernel
  rw [e] at h
  omega
theorem log_small {i j : Int} (h0 : 0 < j) (h : j < 2 ^ 200) : CDivW i j := wide_div h0 (small200 h0 h) (by decide) (by decide)
/-! ### more rules by data -/
section
variable {K : PySem.W.Frag} {W : Wx} {X : Er → Sls → Prop} {ρ : Sls}
theorem uT {b : Bool} {p q : Prop} (h : b = true) (x : p) : if b = true then p else q := by
  rw [if_pos h]
  exact x
theorem uF {b : Bool} {p q : Prop} (h : b = false) (x : q) : if b = true then p else q := by
  rw [h, if_neg Bool.false_ne_true]
  exact x
def signs (z : Str) : List U := z.cps.toList.map fun c => U.str ⟨#[c]⟩
theorem uwalk_str {s : Sta} {z : Str} : UWalk K s (Its z) (signs z) := by
  have hl : z.cps.size = (signs z).length := by rw [signs, List.length_map, Array.length_toList]
  refine ⟨_, _, (hl ▸ walk_str (z := z)), fun _ _ _ => trivial, fun i x s' H' hi n D y => ?_⟩
  obtain ⟨rfl, c, hc, rfl⟩ := y
  refine ⟨s', .str ⟨#[c]⟩, rfl, rfl, Nxt.refl D, ?_, .str _⟩
  rw [signs, List.getElem?_map, Array.getElem?_toList, hc]
  rfl
theorem wi_str {te : TE} {Q : List U → Sls → Prop} (h : WE K W te ρ (fun a ρ1 => ∃ z, a = .dt (.str z) ∧ Q (signs z) ρ1) X) : WI K W (iStr te) ρ Q X := by
  rintro s R0 rfl D x k
  refine h s _ rfl D x fun v a s1 n ok ⟨z, e, q⟩ => ?_
  subst e
  have ok : At K s1.G v (.str z) := ok
  cases ok
  exact ⟨z, rfl, k _ _ s1 n uwalk_str q⟩
theorem we_and {ta tb : TE} {Q : Av → Sls → Prop} (h : WE K W ta ρ (fun a ρ1 => ∃ b, a = .dt (.bl b) ∧ if b = true then WE K W tb ρ1 Q X else Q (.dt (.bl false)) ρ1) X) : WE K W (tAndV ta tb) ρ Q X := by
  rintro s Q0 rfl D x k
  refine h s _ rfl D x fun v a s1 n ok ⟨b, e, q⟩ => ?_
  subst e
  have ok : At K s1.G v (.bl b) := ok
  cases ok
  refine ⟨b, rfl, ?_⟩
  cases b with
  | true => exact iteT ((show WE K W tb s1.ρ Q X by simpa using q).go n rfl x k)
  | false => exact iteF (k _ (.dt (.bl false)) s1 n (At.bl false) (by simpa using q))
theorem we_or {ta tb : TE} {Q : Av → Sls → Prop} (h : WE K W ta ρ (fun a ρ1 => ∃ b, a = .dt (.bl b) ∧ if b = true then Q (.dt (.bl true)) ρ1 else WE K W tb ρ1 Q X) X) : WE K W (tOrV ta tb) ρ Q X := by
  rintro s Q0 rfl D x k
  refine h s _ rfl D x fun v a s1 n ok ⟨b, e, q⟩ => ?_
  subst e
  have ok : At K s1.G v (.bl b) := ok
  cases ok
  refine ⟨b, rfl, ?_⟩
  cases b with
  | true => exact iteT (k _ (.dt (.bl true)) s1 n (At.bl true) (by simpa using q))
  | false => exact iteF ((show WE K W tb s1.ρ Q X by simpa using q).go n rfl x k)
theorem we_not {ta : TE} {Q : Av → Sls → Prop} (h : WE K W ta ρ (fun a ρ1 => ∃ b, a = .dt (.bl b) ∧ Q (.dt (.bl (!b))) ρ1) X) : WE K W (tNotV ta) ρ Q X := by
  rintro s Q0 rfl D x k
  refine h s _ rfl D x fun v a s1 n ok ⟨b, e, q⟩ => ?_
  subst e
  have ok : At K s1.G v (.bl b) := ok
  cases ok
  exact ⟨b, rfl, k _ (.dt (.bl (!b))) s1 n (At.bl (!b)) q⟩
/-- a slice's part that may be None -/
def tPartN (t : TE) : TO := fun σ H Q => t σ H fun x H1 => (x = .non ∧ Q none H1) ∨ ∃ i, x = .int i ∧ Q (some i) H1
theorem po_any {Y : Cx} {e : Expr} {te : TE} (h : PE Y e te) : PO Y (some e) (tPartN te) := by
  refine ⟨fun pins s σ H Q I hw => ?_⟩
  rw [evalPart_some]
  refine thn (h.run pins s σ H _ I hw) fun u s1 ⟨x, H1, I1, r1, q1⟩ => ?_
  rcases q1 with ⟨rfl, q⟩ | ⟨i, rfl, q⟩
  · cases (show u = Value.none from r1)
    exact ⟨none, H1, I1, .none, q⟩
  · obtain ⟨t, rfl⟩ := r1
    exact ⟨some i, H1, I1, .int i t, q⟩
def partU : U → Option (Option Int)
  | .non => some none
  | .int i => some (some i)
  | _ => none
theorem wo_any {t : TE} {Q : Option Int → Sls → Prop} (h : WE K W t ρ (fun a ρ1 => ∃ d o, a = .dt d ∧ partU d = some o ∧ Q o ρ1) X) : WO K W (tPartN t) ρ Q X := by
  rintro s Q0 rfl D x k
  refine h s _ rfl D x fun v a s1 n ok ⟨d, o, e, p, q⟩ => ?_
  subst e
  have ok : At K s1.G v d := ok
  cases ok with
  | non =>
    cases (show some none = some o from p)
    exact .inl ⟨rfl, k none s1 n q⟩
  | int i =>
    cases (show some (some i) = some o from p)
    exact .inr ⟨i, rfl, k (some i) s1 n q⟩
  | _ => cases p
/-- isinstance(x, c): x plain, or an error that is kept -/
def rIsG (K : PySem.W.Frag) : List V → Hp → VK → Prop := fun xs H Q => ∃ (x c : V) (t u : Value) (b : Bool), xs = [x, c] ∧ ClsV c u ∧
  (TyX K H x t ∨ (∃ (C a e : Addr) (fs : List (Str × V)), x = .ref a ∧ t = .ref C ∧ ExcC K C ∧ H a = some (ExK (.ref C) (some e) a) ∧ H e = some (.xd fs)) ∨ ∃ C a : Addr, x = .ref a ∧ t = .ref C ∧ ExcC K C ∧ H a = some (ExK (.ref C) none a)) ∧ PySem.W.kitOne K t u = some b ∧ Q (.bl b) H
theorem call_isG {Y : Cx} : CallR Y (.builtin "isinstance") (rIsG Y.K) := by
  intro pins s σ H xs us Q I r h
  obtain ⟨x, c, t, u, b, rfl, k, ty, e, q⟩ := h
  rcases ty with ty | ⟨C, a, ed, fs, rfl, rfl, EC, ea, ee⟩ | ⟨C, a, rfl, rfl, EC, ea⟩
  · exact call_isi pins s σ H _ us Q I r ⟨x, c, t, u, b, rfl, k, ty, e, q⟩
  rotate_left
  · obtain ⟨u1, u2, rfl, r1, r2⟩ := vals2 r
    have e2 := k.eq r2
    subst e2
    obtain rfl : u1 = Value.ref a := r1
    obtain ⟨⟨ob, fl, g1, g2, g3⟩, _, _⟩ := I.hok a _ ea
    have inst : PySem.W.InstAt s.heap a ob C none := ⟨g1, g2.1, by unfold PySem.W.notCls; rw [g3] <;> rfl, by rw [g2.2]; trivial⟩
    have hcl : (PySem.W.clsIn Y.K C).isSome = true := by
      obtain ⟨cd, hc, _⟩ := PySem.W.any_some EC.hd
      rw [hc]
      rfl
    exact PySem.W.kia_one (PySem.W.kitx_exc hcl EC.hg EC.hk EC.hs EC.ha EC.hn EC.ht EC.hm) I.kIn inst e (fun z => nomatch z) fun tk => ⟨.bl b, H, I.tok tk, rfl, q⟩
  obtain ⟨u1, u2, rfl, r1, r2⟩ := vals2 r
  have e2 := k.eq r2
  subst e2
  obtain rfl : u1 = Value.ref a := r1
  obtain ⟨⟨ob, fl, g1, g2, g3⟩, _, _⟩ := I.hok a _ ea
  obtain ⟨mA, ns, rel⟩ := (I.hok ed _ ee : ObjOk Y.prog Y.w H s.heap ed (.xd fs))
  obtain ⟨od, ho, _⟩ := lookIn_ns ns
  have inst : PySem.W.InstAt s.heap a ob C (some od) := ⟨g1, g2.1, by unfold PySem.W.notCls; rw [g3] <;> rfl, by rw [g2.2]; exact ho⟩
  have hcl : (PySem.W.clsIn Y.K C).isSome = true := by
    obtain ⟨cd, hc, _⟩ := PySem.W.any_some EC.hd
    rw [hc]
    rfl
  exact PySem.W.kia_one (PySem.W.kitx_exc hcl EC.hg EC.hk EC.hs EC.ha EC.hn EC.ht EC.hm) I.kIn inst e (fun z => nomatch z) fun tk => ⟨.bl b, H, I.tok tk, rfl, q⟩
def clsU : U → Option Value
  | .ty n => some (.type n)
  | .raw a => some (.ref a)
  | _ => none
theorem wc_isG {a c : Av} {d dc : U} {u : Value} {b : Bool} {Q : Av → Sls → Prop} (ha : View ρ a d) (hc : c = .dt dc) (hu : clsU dc = some u) (p : plainU d = true ∨ ∃ C ns xs, d = .exo C ns xs ∧ ExcC K C) (e : PySem.W.kitOne K (tyU d) u = some b) (q : Q (.dt (.bl b)) ρ) : WC K W (rIsG K) [a, c] ρ Q X := by
  rintro s vs Q0 rfl D _ h k
  obtain ⟨v, w, rfl, h1, h2⟩ := avs_two h
  subst hc
  have h2 : At K s.G w dc := h2
  have cv : ClsV w u := by
    cases h2 <;> first | (cases hu; done) | skip
    · cases hu
      exact .ty _
    · cases hu
      exact .own _
  refine ⟨v, w, _, u, b, rfl, cv, ?_, e, k.dt D (.bl _) q⟩
  have hv := view_at D h1 ha
  rcases p with p | ⟨C, ns, xs, rfl, EC⟩
  · exact .inl (at_ty hv p)
  · cases hv with
    | exo hs he _ => exact .inr (.inl ⟨_, _, _, _, rfl, rfl, EC, hs, he⟩)
    | exo0 hs => exact .inr (.inr ⟨_, _, rfl, rfl, EC, hs⟩)
/-- the field of a kept error -/
def lookU : List Str → List U → Str → Option U
  | n :: ns, d :: ds, f => if (f == n) = true then some d else lookU ns ds f
  | _, _, _ => none
theorem AtAll.lookU {G : Hp} : ∀ {fs : List (Str × V)} {ds : List U} {f : Str} {d : U}, AtAll K G (fs.map (·.2)) ds → Lw.lookU (fs.map (·.1)) ds f = some d → ∃ v, fs.lookup f = some v ∧ At K G v d
  | [], _, _, _, _, h => by cases h
  | (n, v) :: fs, _, f, d, .cons h t, e => by
    have e : (if (f == n) = true then some _ else Lw.lookU (fs.map (·.1)) _ f) = some d := e
    rw [List.lookup_cons]
    cases q : f == n with
    | true =>
      rw [q, if_pos rfl] at e
      cases e
      exact ⟨v, rfl, h⟩
    | false =>
      rw [q, if_neg Bool.false_ne_true] at e
      exact AtAll.lookU t e
theorem we_xfK {C : Addr} {f : Str} {te : TE} {Q : Av → Sls → Prop} (h : WE K W te ρ (fun a ρ1 => ∃ ns xs d, a = .dt (.exo C ns xs) ∧ lookU ns xs f = some d ∧ Q (.dt d) ρ1) X) : WE K W (tXfK C f te) ρ Q X := by
  rintro s Q0 rfl D x k
  refine h s _ rfl D x fun v a s1 n ok ⟨ns, xs, d, e, l, q⟩ => ?_
  subst e
  have ok : At K s1.G v (.exo C ns xs) := ok
  cases ok with
  | exo hs he ha =>
    obtain ⟨z, e1, e2⟩ := ha.lookU l
    exact ⟨_, _, _, z, rfl, n.den.sub _ _ hs, n.den.sub _ _ he, e1, k z (.dt d) s1 n e2 q⟩
  | exo0 hs => cases l
end

/-! ### own objects by data: fields, methods, making -/
section
variable {K : PySem.W.Frag} {W : Wx} {X : Er → Sls → Prop} {ρ : Sls} {P : Post}
theorem view_obj {s : Sta} {v : V} {av : Av} {C : Addr} {ns : List Str} {xs : List U} (D : Den K s) (ok : AvOk K s s v av) (w : View s.ρ av (.obj C ns xs)) : ∃ a dx fs, v = .ref a ∧ s.H a = some (.ins C dx fs) ∧ fs.map (·.1) = ns ∧ AtAll K s.G (fs.map (·.2)) xs := by
  rcases view_items D ok w with h | ⟨a, o, rfl, h1, h2⟩
  · cases h with
    | obj hs ha => exact ⟨_, _, _, rfl, D.sub _ _ hs, rfl, ha⟩
  · cases h2 with
    | obj h2 => exact ⟨a, _, _, rfl, h1, rfl, h2⟩
/-- e.f -/
theorem we_fld {te : TE} {f : Str} {Q : Av → Sls → Prop} (h : WE K W te ρ (fun a ρ1 => ∃ C ns xs d, View ρ1 a.fl (.obj C ns xs) ∧ Cls K C ∧ NoAttr K C f ∧ lookU ns xs f = some d ∧ Q (.dt d) ρ1) X) : WE K W (tFld K te f) ρ Q X := by
  rintro s Q0 rfl D x k
  refine WE.flat (Q := fun a ρ1 => ∃ C ns xs d, View ρ1 a (.obj C ns xs) ∧ Cls K C ∧ NoAttr K C f ∧ lookU ns xs f = some d ∧ Q (.dt d) ρ1) h rfl D x fun v a s1 n1 fa ok ⟨C, ns, xs, d, hw, hc, hn, l, q⟩ => ?_
  obtain ⟨b, dx, fs, rfl, e1, rfl, e2⟩ := view_obj n1.den ok hw
  obtain ⟨z, l1, l2⟩ := e2.lookU l
  exact ⟨b, C, dx, fs, z, rfl, e1, hc, hn, l1, k z (.dt d) s1 n1 l2 q⟩
/-- o.m(..) -/
theorem we_meth {C : Addr} {m : Str} {R : RU} {ta : TE} {t : TA} {Q : Av → Sls → Prop} (h : WE K W ta ρ (fun a ρ1 => ∃ ns xs, View ρ1 a.fl (.obj C ns xs) ∧ m ∉ ns ∧ WA K W t ρ1 (fun as ρ2 => CallU R (a.fl :: as) ρ2 Q (fun _ _ => False)) X) X) : WE K W (tMeth C m (spU K R) [] E0 ta t) ρ Q X := by
  rintro s Q0 rfl D x k
  refine WE.flat (Q := fun a ρ1 => ∃ ns xs, View ρ1 a (.obj C ns xs) ∧ m ∉ ns ∧ WA K W t ρ1 (fun as ρ2 => CallU R (a :: as) ρ2 Q (fun _ _ => False)) X) h rfl D x fun v a s1 n1 fa ok ⟨ns, xs, hw, hm, q⟩ => ?_
  obtain ⟨b, dx, fs, rfl, e1, rfl, e2⟩ := view_obj n1.den ok hw
  refine ⟨b, dx, fs, rfl, e1, ?_, ?_⟩
  · refine List.lookup_eq_none_iff.mpr fun p hp => ?_
    rw [bne_iff_ne]
    exact fun e => hm (by rw [e]; exact List.mem_map_of_mem hp)
  · rw [← n1.slots]
    refine q s1 _ rfl n1.den (x.next n1.stp) fun vs as s2 n2 ok2 q2 => ?_
    rw [List.append_nil]
    exact q2.run n2.den (.cons fa ((AvOk.next fa n2 ok).self fa) ok2) ((k.lift n1).lift n2) fun _ _ _ _ _ _ _ _ z => z.elim
/-- a field is stored -/
def putN (f : Str) : List Str → List Str
  | [] => [f]
  | g :: r => if g = f then g :: r else g :: putN f r
def putX (f : Str) (d : U) : List Str → List U → List U
  | g :: r, x :: xs => if g = f then d :: xs else x :: putX f d r xs
  | _, xs => xs ++ [d]
theorem putF_names (f : Str) (v : V) : ∀ fs : List (Str × V), (putF f v fs).map (·.1) = putN f (fs.map (·.1))
  | [] => rfl
  | (g, x) :: r => by
    show ((if g = f then (g, v) :: r else (g, x) :: putF f v r).map (·.1)) = if g = f then g :: r.map (·.1) else g :: putN f (r.map (·.1))
    by_cases h : g = f
    · rw [if_pos h, if_pos h]
      rfl
    · rw [if_neg h, if_neg h, List.map_cons, putF_names f v r]
theorem putF_at {G : Hp} {f : Str} {v : V} {d : U} (hv : At K G v d) : ∀ {fs : List (Str × V)} {xs : List U}, AtAll K G (fs.map (·.2)) xs → AtAll K G ((putF f v fs).map (·.2)) (putX f d (fs.map (·.1)) xs)
  | [], _, .nil => .cons hv .nil
  | (g, x) :: r, y :: xs, .cons h t => by
    show AtAll K G ((if g = f then (g, v) :: r else (g, x) :: putF f v r).map (·.2)) (if g = f then d :: xs else y :: putX f d (r.map (·.1)) xs)
    by_cases e : g = f
    · rw [if_pos e, if_pos e]
      exact .cons hv t
    · rw [if_neg e, if_neg e]
      exact .cons h (putF_at hv t)
theorem ws_fld {j : Nat} {te : TE} {f : Str} (h : WE K W te ρ (fun a ρ1 => ∃ d ρ2 sl C ns xs, Frz ρ1 [a.fl] [d] ρ2 ∧ ρ2[j]? = some sl ∧ sl.cell = some (.obj C ns xs) ∧ Cls K C ∧ NoAttr K C f ∧ ns.length < 1000 ∧ P.nx (setC ρ2 j (.obj C (putN f ns) (putX f d ns xs)))) P.xc) :
    WS K W (sFld K (tVar j) te f) ρ P := by
  rintro s D rfl d x fi
  refine WE.flat (Q := fun a ρ1 => ∃ d ρ2 sl C ns xs, Frz ρ1 [a] [d] ρ2 ∧ ρ2[j]? = some sl ∧ sl.cell = some (.obj C ns xs) ∧ Cls K C ∧ NoAttr K C f ∧ ns.length < 1000 ∧ P.nx (setC ρ2 j (.obj C (putN f ns) (putX f d ns xs)))) h rfl d x fun v a s1 n1 fa ok ⟨z, ρ2, sl, C, ns, xs, hf, c1, c2, hc, hn, hl, q⟩ => ?_
  obtain ⟨s2, e1, e2, n2, hz⟩ := frz1 hf fa n1.den ok
  subst e1
  have n12 := n1.trans n2
  obtain ⟨b, o, e3, e4, e5, e6⟩ := n2.den.own j sl _ c1 c2
  have eσ : s.σ[j]? = some (some (.ref b)) := by rw [← n12.slots]; exact e3
  cases e6 with
  | obj hx =>
    rename_i dx fs
    rw [← e2]
    refine ⟨.ref b, eσ, b, C, dx, fs, rfl, e5, hc, hn, by rw [← List.length_map (f := (·.1))]; exact hl, ?_⟩
    have nw := cell_write (o' := .ins C dx (putF f v fs)) (d' := .obj C (putN f (fs.map (·.1))) (putX f z (fs.map (·.1)) xs)) n2.den c1 c2 e3 e5 (putF_names f v fs ▸ .obj (putF_at hz hx))
    have := fi.nx _ (n12.stp.trans nw.stp) nw.den q
    rw [show ({ s2 with ρ := setC s2.ρ j (.obj C (putN f (fs.map (·.1))) (putX f z (fs.map (·.1)) xs)), H := upd s2.H b (.ins C dx (putF f v fs)) } : Sta).σ = s.σ from n12.slots] at this
    exact this
end
/-! ### an instance is made -/
/-- behind the call: nothing given out; what the new object is then -/
def MadeQ (n : Nat) (Q : Av → Sls → Prop) : Av → Sls → Prop := fun a r => a = .dt .non ∧ ∃ d, r[n]? = some (.own d) ∧ Q (.own d) (r.take n)
section
variable {K : PySem.W.Frag} {W : Wx} {X : Er → Sls → Prop} {ρ : Sls}
theorem fresh_none {H H' : Hp} {e : Addr} (s : Same H H') (n : H' e = none) : H e = none := by
  cases q : H e with
  | none => rfl
  | some o =>
    rw [s _ _ q] at n
    cases n
theorem take_get {α : Type} {r : List α} {n i : Nat} {z : α} (h : (r.take n)[i]? = some z) : i < n ∧ r[i]? = some z := by
  rw [List.getElem?_take] at h
  split at h
  · exact ⟨‹_›, h⟩
  · cases h
theorem snoc_get {α : Type} {r : List α} {i : Nat} {y z : α} (h : (r ++ [y])[i]? = some z) : (i = r.length ∧ y = z) ∨ (i < r.length ∧ r[i]? = some z) := by
  by_cases l : i < r.length
  · rw [List.getElem?_append_left l] at h
    exact .inr ⟨l, h⟩
  · rw [List.getElem?_append_right (by omega)] at h
    have := lt_of_get h
    rw [List.length_singleton] at this
    have e : i - r.length = 0 := by omega
    rw [e] at h
    cases h
    exact .inl ⟨by omega, rfl⟩
theorem made_den {s1 : Sta} {x dx C : Addr} (D : Den K s1) (hx : s1.H x = none) (hd : s1.H dx = none) (ne : dx ≠ x) :
    Den K ⟨s1.G, s1.ρ ++ [.own (.obj C [] [])], s1.σ ++ [some (.ref x)], upd (upd s1.H dx (.own x)) x (.ins C dx [])⟩ ∧ (∀ a, Owns ⟨s1.G, s1.ρ ++ [.own (.obj C [] [])], s1.σ ++ [some (.ref x)], upd (upd s1.H dx (.own x)) x (.ins C dx [])⟩ a → a = x ∨ Owns s1 a) ∧
      Same s1.H (upd (upd s1.H dx (.own x)) x (.ins C dx [])) := by
  obtain ⟨gx, ox⟩ := D.free hx
  have s12 : Same s1.H (upd (upd s1.H dx (.own x)) x (.ins C dx [])) := fun a o e => by
    rw [upd_ne (ne_of_none e hx), upd_ne (ne_of_none e hd)]
    exact e
  have f : ∀ {i a}, OwnAt ⟨s1.G, s1.ρ ++ [.own (.obj C [] [])], s1.σ ++ [some (.ref x)], upd (upd s1.H dx (.own x)) x (.ins C dx [])⟩ i a → (i = s1.ρ.length ∧ a = x) ∨ (i < s1.ρ.length ∧ OwnAt s1 i a) := fun {i a} ⟨⟨sl, d, e1, e2⟩, e3⟩ => by
    rcases snoc_get e1 with ⟨rfl, _⟩ | ⟨l, e1⟩
    · rcases snoc_get e3 with ⟨_, h⟩ | ⟨l, _⟩
      · cases h
        exact .inl ⟨rfl, rfl⟩
      · rw [D.len] at l
        omega
    · rcases snoc_get e3 with ⟨h, _⟩ | ⟨_, e3⟩
      · rw [D.len] at h
        omega
      · exact .inr ⟨l, ⟨sl, d, e1, e2⟩, e3⟩
  refine ⟨⟨D.sub.trans s12, ?_, fun i d e => ?_, fun i sl d e1 e2 => ?_, fun i j a h1 h2 => ?_⟩, fun a ⟨i, h⟩ => ?_, s12⟩
  · show (s1.σ ++ [_]).length = (s1.ρ ++ [_]).length
    rw [List.length_append, List.length_append, D.len]
    rfl
  · rcases snoc_get e with ⟨_, h⟩ | ⟨l, e⟩
    · cases h
    · obtain ⟨v, h1, h2⟩ := D.val i d e
      exact ⟨v, pad_get h1, h2⟩
  · rcases snoc_get e1 with ⟨rfl, h⟩ | ⟨l, e⟩
    · cases h
      cases e2
      refine ⟨x, .ins C dx [], ?_, gx, upd_same, .obj (fs := []) .nil⟩
      show (s1.σ ++ [some (V.ref x)])[s1.ρ.length]? = _
      rw [← D.len, List.getElem?_append_right (Nat.le_refl _), Nat.sub_self]
      rfl
    · obtain ⟨a, o, h1, h2, h3, h4⟩ := D.own i sl d e e2
      exact ⟨a, o, pad_get h1, h2, s12 _ _ h3, h4⟩
  · rcases f h1 with ⟨rfl, rfl⟩ | ⟨l1, o1⟩ <;> rcases f h2 with ⟨rfl, hb⟩ | ⟨l2, o2⟩
    · rfl
    · exact absurd ⟨j, o2⟩ ox
    · exact absurd ⟨i, hb ▸ o1⟩ ox
    · exact D.dis i j a o1 o2
  · rcases f h with ⟨_, rfl⟩ | ⟨_, h⟩
    · exact .inl rfl
    · exact .inr ⟨i, h⟩
/-- the caller's state behind the making -/
theorem made_back {s1 s2 : Sta} {x dx C : Addr} (D1 : Den K s1) (hx : s1.H x = none) (hd : s1.H dx = none) (ne : dx ≠ x)
    (n2 : Stp ⟨s1.G, s1.ρ ++ [.own (.obj C [] [])], s1.σ ++ [some (.ref x)], upd (upd s1.H dx (.own x)) x (.ins C dx [])⟩ s2) (d2 : Den K s2) (hσ : s2.σ = s1.σ ++ [some (.ref x)]) :
    Den K { s2 with ρ := s2.ρ.take s1.ρ.length, σ := s1.σ } ∧ Stp s1 { s2 with ρ := s2.ρ.take s1.ρ.length, σ := s1.σ } ∧ (∀ {i b}, OwnAt { s2 with ρ := s2.ρ.take s1.ρ.length, σ := s1.σ } i b → i < s1.ρ.length ∧ OwnAt s2 i b) := by
  obtain ⟨D2, ow, s12⟩ := made_den (C := C) D1 hx hd ne
  have lenσ : s1.σ.length = s1.ρ.length := D1.len
  have len2 : s2.ρ.length = s1.ρ.length + 1 := by
    rw [← d2.len, hσ, List.length_append, lenσ]
    rfl
  have out : ∀ {i b}, OwnAt { s2 with ρ := s2.ρ.take s1.ρ.length, σ := s1.σ } i b → i < s1.ρ.length ∧ OwnAt s2 i b := fun {i b} ⟨⟨sl, z, e2, e3⟩, e4⟩ => by
    obtain ⟨l, e2⟩ := take_get e2
    exact ⟨l, ⟨sl, z, e2, e3⟩, by rw [hσ]; exact pad_get e4⟩
  have old : ∀ {b}, s1.H b ≠ none → ¬ Owns s1 b → (upd (upd s1.H dx (.own x)) x (.ins C dx [])) b = s1.H b ∧ ¬ Owns ⟨s1.G, s1.ρ ++ [.own (.obj C [] [])], s1.σ ++ [some (.ref x)], upd (upd s1.H dx (.own x)) x (.ins C dx [])⟩ b := fun {b} n1' n2' => by
    have b1 : b ≠ x := fun e => n1' (e ▸ hx)
    have b2 : b ≠ dx := fun e => n1' (e ▸ hd)
    refine ⟨by rw [upd_ne b1, upd_ne b2], fun h => ?_⟩
    rcases ow b h with h | h
    · exact b1 h
    · exact n2' h
  refine ⟨⟨d2.sub, ?_, fun i z e => ?_, fun i sl z e2 e3 => ?_, fun i j b h1 h2 => d2.dis i j b (out h1).2 (out h2).2⟩, ⟨n2.sub, fun b u e n => ?_, fun b e => ?_, fun b ⟨i, h⟩ => ?_, fun b h1 h2 h3 => ?_, fun i z e => ?_⟩, out⟩
  · show s1.σ.length = (s2.ρ.take s1.ρ.length).length
    rw [List.length_take, len2, lenσ]
    omega
  · obtain ⟨l, e⟩ := take_get e
    obtain ⟨u, h1, h2⟩ := d2.val i z e
    rw [hσ, List.getElem?_append_left (by rw [lenσ]; exact l)] at h1
    exact ⟨u, h1, h2⟩
  · obtain ⟨l, e2⟩ := take_get e2
    obtain ⟨b, u, h1, h2⟩ := d2.own i sl z e2 e3
    rw [hσ, List.getElem?_append_left (by rw [lenσ]; exact l)] at h1
    exact ⟨b, u, h1, h2⟩
  · obtain ⟨h1, h2⟩ := old (by rw [e]; exact nofun) n
    exact n2.fr b u (h1.trans e) h2
  · exact fresh_none s12 (n2.dom b e)
  · rcases n2.own b ⟨i, (out h).2⟩ with h | h
    · rcases ow b h with rfl | h
      · exact .inr hx
      · exact .inl h
    · exact .inr (fresh_none s12 h)
  · obtain ⟨h4, h5⟩ := old h1 h2
    exact n2.gfr b (by rw [show (Sta.H _) b = s1.H b from h4]; exact h1) h5 h3
  · obtain ⟨z', h1, h2⟩ := n2.bor i z (pad_get e)
    have l : i < s1.ρ.length := lt_of_get e
    refine ⟨z', ?_, rfl⟩
    show (s2.ρ.take s1.ρ.length)[i]? = _
    rw [List.getElem?_take, if_pos l]
    exact h1
/-- what the making asks of __init__ -/
def MakeU (C : Addr) (R : RU) (as : List Av) (ρ : Sls) (Q : Av → Sls → Prop) (X : Er → Sls → Prop) : Prop :=
  CallU R (.sl ρ.length :: as) (ρ ++ [.own (.obj C [] [])]) (MadeQ ρ.length Q) (fun e r => X e (r.take ρ.length))
theorem MakeU.run {C : Addr} {R : RU} {as : List Av} {Q : Av → Sls → Prop} {s s1 : Sta} {vs : List V} {Q0 : VK} {E : XK} {x dx : Addr} (q : MakeU C R as s1.ρ Q X) (n1 : Nxt K s s1) (ok : AvsOk K s1 vs as) (k : Cnt K s Q Q0)
    (ex : ∀ cls dd e s', Stp s1 s' → Den K s' → s'.σ = s1.σ → ErOk K s' cls dd e → X e s'.ρ → E cls dd s'.H) (hx : s1.H x = none) (hd : s1.H dx = none) (ne : dx ≠ x) :
    spU K R (.ref x :: vs) (upd (upd s1.H dx (.own x)) x (.ins C dx [])) (fun v G => v = .non ∧ Q0 (.ref x) G) E := by
  obtain ⟨D2, ow, s12⟩ := made_den (C := C) n1.den hx hd ne
  have lenσ : s1.σ.length = s1.ρ.length := n1.den.len
  have q : CallU R (.sl s1.ρ.length :: as) (Sta.ρ ⟨s1.G, s1.ρ ++ [.own (.obj C [] [])], s1.σ ++ [some (.ref x)], upd (upd s1.H dx (.own x)) x (.ins C dx [])⟩) (MadeQ s1.ρ.length Q) (fun e r => X e (r.take s1.ρ.length)) := q
  refine CallU.run q D2 (.cons (a := .sl s1.ρ.length) trivial ?_ ?_) ?_ ?_
  · show (s1.σ ++ [some (V.ref x)])[s1.ρ.length]? = some (some (V.ref x))
    rw [← lenσ, List.getElem?_append_right (Nat.le_refl _), Nat.sub_self]
    rfl
  · have go : ∀ {vs : List V} {as : List Av}, AvsOk K s1 vs as → AvsOk K ⟨s1.G, s1.ρ ++ [.own (.obj C [] [])], s1.σ ++ [some (.ref x)], upd (upd s1.H dx (.own x)) x (.ins C dx [])⟩ vs as := fun {vs as} h => by
      induction h with
      | nil => exact .nil
      | @cons v vs a as fa oa _ ih =>
        refine .cons fa ?_ ih
        cases a with
        | dt d => exact oa
        | sl i => exact pad_get (show s1.σ[i]? = some (some v) from oa)
        | own d => exact fa.elim
    exact go ok
  · rintro v av s2 n2 ok2 ⟨rfl, d, e1, q2⟩
    have ok2 : At K s2.G v .non := ok2
    cases ok2
    refine ⟨rfl, ?_⟩
    have hσ : s2.σ = s1.σ ++ [some (.ref x)] := n2.slots
    obtain ⟨D3, S3, out⟩ := made_back n1.den hx hd ne n2.stp n2.den hσ
    obtain ⟨a, o, o1, o2, o3, o4⟩ := n2.den.own s1.ρ.length _ d e1 rfl
    have ea : a = x := by
      rw [hσ] at o1
      rcases snoc_get o1 with ⟨_, h⟩ | ⟨l, _⟩
      · cases h
        rfl
      · omega
    subst ea
    have no : ¬ Owns { s2 with ρ := s2.ρ.take s1.ρ.length, σ := s1.σ } a := fun ⟨i, h⟩ => by
      obtain ⟨l, h⟩ := out h
      have := n2.den.dis i s1.ρ.length a h ⟨⟨_, d, e1, rfl⟩, o1⟩
      omega
    exact k (.ref a) (.own d) { s2 with ρ := s2.ρ.take s1.ρ.length, σ := s1.σ } ⟨n1.stp.trans S3, D3, n1.slots⟩ ⟨a, o, rfl, o3, o2, o4, no, .inl (n1.stp.dom a hx)⟩ q2
  · intro cls dd e s2 n2 d2 hσ er xe
    obtain ⟨D3, S3, _⟩ := made_back n1.den hx hd ne n2 d2 hσ
    exact ex cls dd e { s2 with ρ := s2.ρ.take s1.ρ.length, σ := s1.σ } S3 D3 rfl er xe
/-- C(..), nothing is raised -/
theorem we_make {C : Addr} {R : RU} {t : TA} {Q : Av → Sls → Prop} (h : WA K W t ρ (fun as ρ1 => MakeU C R as ρ1 Q (fun _ _ => False)) X) : WE K W (tMake C (spU K R) [] E0 t) ρ Q X := by
  rintro s Q0 rfl D xo k
  refine h s _ rfl D xo fun vs as s1 n1 ok q => ?_
  intro x dx hx hd ne
  rw [List.append_nil]
  exact q.run n1 ok k (fun _ _ _ _ _ _ _ _ z => z.elim) hx hd ne
end

/-! ### making an instance whose __init__ may let an error out, read at the slots -/
def tMkS (C : Addr) (sp : Sp) (E : L2.St → XK) (t : TA) : TE := fun σ H Q =>
  t σ H fun us H' => ∀ o d, H' o = none → H' d = none → d ≠ o → sp (.ref o :: us) (upd (upd H' d (.own o)) o (.ins C d [])) (fun v G => v = .non ∧ Q (.ref o) G) (E σ)
section
variable {X : Cx} {CX : CXT} {m : Nat} {i C : Addr} {fd : FuncData} {qs : List Str} {sp : Sp} {E : L2.St → XK}
theorem run_mkS {pins : List (Addr × Obj)} {σ : L2.St} {H : Hp} {s : Shared} {Q : VK} {us : List Value} {ws : List V}
    (M : Mk X.K C i) (F : FnOk X.prog X.w X.K X.mg X.base CX m i fd qs sp)
    (hr : Room (m + 1) X.A) (hb : Binds X.K fd qs []) (hx : PassesAt CX X σ (E σ)) (I : Inv X pins σ H s) (r : Vals ws us)
    (h : ∀ o d, H o = none → H d = none → d ≠ o → sp (.ref o :: ws) (upd (upd H d (.own o)) o (.ins C d [])) (fun v G => v = .non ∧ Q (.ref o) G) (E σ)) :
    wpAny (model X.prog X.w) X.A (call (.ref C) us) (EP X pins σ Q) X.xe s := by
  obtain ⟨z, hz⟩ : ∃ z, z = s.heap.objs.size := ⟨_, rfl⟩
  have h0 := h (z + 1) z (I.hok.fresh (by omega)) (I.hok.fresh (by omega)) (Nat.ne_of_lt (Nat.lt_succ_self _))
  subst hz
  have J := Inv.made (C := C) I
  have rr : Vals (V.ref (s.heap.objs.size + 1) :: ws) (Value.ref (s.heap.objs.size + 1) :: us) := .cons rfl r
  have len : (Value.ref (s.heap.objs.size + 1) :: us).length = qs.length :=
    rr.length.symm.trans (F.len _ _ _ _ h0)
  have bb := hb _ (Value.ref (s.heap.objs.size + 1) :: us) J.kIn (by rw [List.append_nil]; exact len)
  rw [List.append_nil] at bb
  have go := F.run _ X.stack _ _ ⟨Value.ref (s.heap.objs.size + 1) :: us, []⟩ _ _ _ (E σ) (hr.make C us [])
    (J.env0.make C us []) bb rr h0
  refine wpAny_call (make_map (f := i) I.kIn M.makes M.init (beq_iff_eq.mp M.fn) (codeAny_mono go fun e s1 g => ?_))
  match e, g with
  | .error x, g => exact hx pins _ _ x s1 J g
  | .ok (.ret u), g =>
    obtain ⟨v, G, J2, rv, ev, last⟩ := J.after g
    subst ev
    exact ⟨rv, V.ref (s.heap.objs.size + 1), G, J2, rfl, last⟩
  | .ok .next, g => exact False.elim g
  | .ok .brk, g => exact False.elim g
  | .ok .cont, g => exact False.elim g
theorem pe_mkS {x : Str} {p pos : Pos} {e : Expr} {es : List Expr} {t : TA} (M : Mk X.K C i)
    (F : FnOk X.prog X.w X.K X.mg X.base CX m i fd qs sp) (hr : Room (m + 1) X.A) (hg : Gl X x)
    (hm : X.mg x = some (.ref C)) (hb : Binds X.K fd qs []) (hx : ∀ σ, PassesAt CX X σ (E σ)) (ha : PA X (e :: es) t)
    (hd : (x == ("__debug__" : Str)) = false := by decide)
    (he : starEach (e :: es) X.env = (false, eval e X.env) :: starEach es X.env := by rfl)
    (hp : (backTo pos (starEach es X.env)).any (·.1) = false := by rfl) :
    PE X (.Call (.Name x p) (e :: es) [] pos) (tMkS C sp E t) := by
  refine ⟨fun pins s σ H Q I h => wpAny_Call_Name_kw (ld_glob I hg hm ?_ hd)⟩
  refine PySem.W.callWith_K (h₀ := X.base) I.ok.mod.kin M.kp (thn (ha.run pos pins s σ H _ I h) ?_) he hp
  rintro us s1 ⟨vs, H1, I1, r, q⟩
  exact ⟨I1.kIn, run_mkS M F hr hb (hx σ) I1 r q⟩
end

/-! ### making an instance that may raise, by data -/
section
variable {K : PySem.W.Frag} {W : Wx} {X : Er → Sls → Prop} {ρ : Sls}
theorem we_mkS {C : Addr} {R : RU} {t : TA} {Q : Av → Sls → Prop} (h : WA K W t ρ (fun as ρ1 => MakeU C R as ρ1 Q X) X) : WE K W (tMkS C (spU K R) (fun σ cls dd H => W cls dd σ H) t) ρ Q X := by
  rintro s Q0 rfl D xo k
  refine h s _ rfl D xo fun vs as s1 n1 ok q => ?_
  intro x dx hx hd ne
  refine q.run n1 ok k (fun cls dd e s' n d eσ er z => ?_) hx hd ne
  have := (xo.next n1.stp) cls dd e s' n d er z
  rw [eσ, n1.slots] at this
  exact this
end

/-! ### an own class's __add__, the other operand of a built-in type -/
/-- what a built-in type must say -/
def AddT (K : PySem.W.Frag) (C : Addr) (T : String) : Prop := ∃ fo ro : Option Value, PySem.W.findIn K (.type T) "__add__" = some fo ∧ PySem.W.findIn K (.type T) "__radd__" = some ro ∧ PySem.W.subIn K (.type T) (.ref C) = some false
structure AddC (K : PySem.W.Frag) (C g : Addr) : Prop where
  at_ : PySem.W.findIn K (.ref C) "__add__" = some (some (.ref g))
  fn : PySem.W.isFn K (.ref g) = true
  first : PySem.W.selfFirst K C = true
  back : PySem.W.findIn K (.ref C) "__radd__" = some none
section
open PySem.W
theorem add_own {P : Program} {w : World} {A : Around} {Ex : Value → Shared → Prop} {sh : Shared} {K : Frag} {a C g : Addr} {oa : Obj} {da : Option Obj} {T : String} {u : Value} {R : Value → Shared → Prop} (kin : K.In sh.heap) (J : InstAt sh.heap a oa C da) (tu : Looks (model P w) sh.heap (typeOf u) (.type T)) (c : AddC K C g) (t : AddT K C T)
    (q : wpAny (model P w) A (call (.ref g) [.ref a, u]) (PySem.W.CmpBack R) Ex sh) : wpAny (model P w) A (binaryOp .Add (.ref a) u) R Ex sh := by
  obtain ⟨fo, ro, f1, f2, f3⟩ := t
  obtain ⟨cd, rest, e1, e2⟩ := ksp_first c.first
  have tried := ksp_try (name := PySem.dunder "add") kin J (show findIn K (.ref C) (PySem.dunder "add") = some (some (.ref g)) from c.at_) c.fn q
  obtain ⟨hq, gq, dq, tq, oq⟩ := sh
  have l1 : Looks (model P w) hq (typeOf (.ref a)) (.ref C) := J.type
  have l2 : Looks (model P w) hq (fillsNumberSlot (.ref C) "add") true := fills_K (nm := "add") kin e1 e2 c.at_
  have l3 : Looks (model P w) hq (fillsNumberSlot (.type T) "add") ((fo.isSome && !isSeqSlot fo) || (ro.isSome && !isSeqSlot ro)) := ksp_fillsT (nm := "add") kin f1 f2
  have l4 : Looks (model P w) hq (isSubtype (.type T) (.ref C)) false := looks_subIn kin f3
  have l5 : Looks (model P w) hq (numberSlotInPython (.ref C) "add") true := ksp_inPy (nm := "add") kin c.at_ c.back (.inl rfl)
  have l6 : Looks (model P w) hq (numberSlotInPython (.type T) "add") false := Looks.of_pure rfl
  have l7 : Looks (model P w) hq (typeLookup (.type T) (dunderR "add")) ro := looks_findIn kin f2
  generalize ((fo.isSome && !isSeqSlot fo) || (ro.isSome && !isSeqSlot ro)) = both at l3
  have apart : (Value.ref C == Value.type T) = false := by
    rw [beq_eq_false_iff_ne]
    exact fun h => nomatch h
  unfold binaryOp
  refine wpAny_holding (wpAny_bind (m := binaryOp1 "add" (.ref a) u) ?_)
  unfold binaryOp1
  refine wpAny_bind (l1.at (wpAny_bind (tu.at (wpAny_bind (l2.at ?_)))))
  simp only [apart, Bool.false_eq_true, if_false]
  have go : ∀ {N : Option Value → Shared → Prop}, (∀ v s', R v s' → N (some v) s') → wpAny (model P w) A (tryMethod (.ref a) (PySem.dunder "add") u) N Ex ⟨hq, gq, dq, tq, oq⟩ := fun hN => wpAny_mono tried (fun r s' h => by
    obtain ⟨v, rfl, hv⟩ := h
    exact hN v s' hv) fun _ _ z => z
  cases both with
  | false =>
    ksp_lk
    refine go fun v s' hv => ?_
    ksp_lk
    exact hv
  | true =>
    ksp_lk
    refine go fun v s' hv => ?_
    ksp_lk
    exact hv
end
section
variable {X : Cx} {CX : CXT} {n : Nat} {C g : Addr} {sp : Sp} {E : XK}
def rAddOwn (K : PySem.W.Frag) (C : Addr) (sp : Sp) (E : XK) : R2 := fun x y H Q => ∃ (a dx : Addr) (fs : List (Str × V)) (T : String), x = .ref a ∧ H a = some (.ins C dx fs) ∧ TyX K H y (.type T) ∧ AddT K C T ∧ sp [x, y] H Q E
theorem op_addOwn (c : AddC X.K C g) (F : FnR X.prog X.w X.K X.mg X.base CX n g sp) (hr : Room n X.A) (hx : Passes CX X E) : OpR X (binaryOp .Add) (rAddOwn X.K C sp E) := by
  intro pins s σ H x y v u Q I rx ry h
  obtain ⟨a, dx, fs, T, rfl, ha, ty, t, q⟩ := h
  obtain rfl : v = Value.ref a := rx
  obtain ⟨od, J⟩ := ins_inst I ha
  refine add_own I.kIn J (looks_tyO I ry (.inl ty)) c t (wpAny_mono (wpAny_call (run_fnR (us := [.ref a, u]) (vs := [.ref a, y]) F hr hx I (.cons rfl (.cons ry .nil)) q)) (fun z s' hz => ?_) fun _ _ e => e)
  obtain ⟨z1, H1, I1, rz, q1⟩ := hz
  exact SlX.cmpback rz ⟨z1, H1, I1, rz, q1⟩
end

/-! ### dicts by data -/
section
variable {K : PySem.W.Frag} {W : Wx} {X : Er → Sls → Prop} {ρ : Sls} {P : Post}
def keyU : U → Option Key
  | .int i => some (.inl i)
  | .str z => some (.inr z)
  | _ => none
theorem at_key {G : Hp} {v : V} {d : U} {k : Key} (h : At K G v d) (e : keyU d = some k) : v = kV k := by
  cases h <;> cases e <;> rfl
/-- what stands at a key -/
def valU {κ : Type} [DecidableEq κ] : List κ → List U → κ → Option U
  | n :: ns, d :: ds, k => if n = k then some d else valU ns ds k
  | _, _, _ => none
theorem at_valU {κ : Type} [DecidableEq κ] {G : Hp} : ∀ {kvs : List (κ × V)} {ds : List U} {k : κ}, AtAll K G (kvs.map (·.2)) ds → (valV kvs k = none ∧ valU (kvs.map (·.1)) ds k = none) ∨ ∃ v d, valV kvs k = some v ∧ valU (kvs.map (·.1)) ds k = some d ∧ At K G v d
  | [], _, _, .nil => .inl ⟨rfl, rfl⟩
  | (n, v) :: r, d :: ds, k, .cons h t => by
    by_cases e : n = k
    · refine .inr ⟨v, d, ?_, if_pos e, h⟩
      unfold valV
      rw [List.find?_cons]
      rw [show decide ((n, v).1 = k) = true from decide_eq_true e]
      rfl
    · have e1 : valV ((n, v) :: r) k = valV r k := by
        unfold valV
        rw [List.find?_cons]
        rw [show decide ((n, v).1 = k) = false from decide_eq_false e]
      have e2 : valU (((n, v) :: r).map (·.1)) (d :: ds) k = valU (r.map (·.1)) ds k := if_neg e
      rw [e1, e2]
      exact at_valU t
theorem view_dic {s : Sta} {v : V} {av : Av} {ks : List Key} {xs : List U} (D : Den K s) (ok : AvOk K s s v av) (w : View s.ρ av (.dic ks xs)) : ∃ a kvs, v = .ref a ∧ s.H a = some (.dK kvs) ∧ kvs.map (·.1) = ks ∧ AtAll K s.G (kvs.map (·.2)) xs := by
  rcases view_items D ok w with h | ⟨a, o, rfl, h1, h2⟩
  · cases h with
    | dic hs ha => exact ⟨_, _, rfl, D.sub _ _ hs, rfl, ha⟩
  · cases h2 with
    | dic h2 => exact ⟨a, _, rfl, h1, rfl, h2⟩
/-- d[k], the key there -/
theorem we_dget {td ty : TE} {Q : Av → Sls → Prop} (h : WE K W td ρ (fun a ρ1 => WE K W ty ρ1 (fun b ρ2 => ∃ ks xs e k d, View ρ2 a.fl (.dic ks xs) ∧ b = .dt e ∧ keyU e = some k ∧ valU ks xs k = some d ∧ Q (.dt d) ρ2) X) X) : WE K W (tDGet td ty) ρ Q X := by
  rintro s Q0 rfl D x k
  refine WE.flat (Q := fun a ρ1 => WE K W ty ρ1 (fun b ρ2 => ∃ ks xs e k d, View ρ2 a (.dic ks xs) ∧ b = .dt e ∧ keyU e = some k ∧ valU ks xs k = some d ∧ Q (.dt d) ρ2) X) h rfl D x fun v a s1 n1 fa ok q => ?_
  show ty s.σ s1.H _
  rw [← n1.slots]
  refine q s1 _ rfl n1.den (x.next n1.stp) fun w b s2 n2 ok2 ⟨ks, xs, e, ky, d, hv, eb, hk, hl, q2⟩ => ?_
  subst eb
  obtain ⟨c, kvs, rfl, e1, rfl, e2⟩ := view_dic n2.den ((AvOk.next fa n2 ok).self fa) hv
  rw [at_key (show At K s2.G w e from ok2) hk]
  rcases at_valU (k := ky) e2 with ⟨_, h2⟩ | ⟨u, d2, h1, h2, h3⟩
  · rw [h2] at hl
    cases hl
  · rw [h2] at hl
    cases hl
    refine ⟨c, u, rfl, ?_, (k.lift (n1.trans n2)) u (.dt _) s2 (Nxt.refl n2.den) h3 q2⟩
    rw [← h1]
    exact DGet.k e1
/-- k in d, k not in d -/
theorem we_din {td ty : TE} {Q : Av → Sls → Prop} (h : WE K W ty ρ (fun b ρ1 => WE K W td ρ1 (fun a ρ2 => ∃ ks xs e k, View ρ2 a.fl (.dic ks xs) ∧ b = .dt e ∧ keyU e = some k ∧ Q (.dt (.bl (valU ks xs k).isSome)) ρ2) X) X) : WE K W (tDIn ty td) ρ Q X := by
  rintro s Q0 rfl D x k
  refine h s _ rfl D x fun w b s1 n1 ok1 q => ?_
  show td s.σ s1.H _
  rw [← n1.slots]
  refine WE.flat (Q := fun a ρ2 => ∃ ks xs e k, View ρ2 a (.dic ks xs) ∧ b = .dt e ∧ keyU e = some k ∧ Q (.dt (.bl (valU ks xs k).isSome)) ρ2) q rfl n1.den (x.next n1.stp) fun v a s2 n2 fa ok2 ⟨ks, xs, e, ky, hv, eb, hk, q2⟩ => ?_
  subst eb
  obtain ⟨c, kvs, rfl, e1, rfl, e2⟩ := view_dic n2.den ok2 hv
  rw [at_key (show At K s1.G w e from ok1) hk]
  refine ⟨c, valV kvs ky, rfl, DGet.k e1, ?_⟩
  have es : (valV kvs ky).isSome = (valU (kvs.map (·.1)) xs ky).isSome := by
    rcases at_valU (k := ky) e2 with ⟨h1, h2⟩ | ⟨u, d2, h1, h2, _⟩
    · rw [h1, h2]
      rfl
    · rw [h1, h2]
      rfl
  rw [es]
  exact (k.lift (n1.trans n2)) _ (.dt _) s2 (Nxt.refl n2.den) (At.bl _) q2
theorem we_dnotin {td ty : TE} {Q : Av → Sls → Prop} (h : WE K W ty ρ (fun b ρ1 => WE K W td ρ1 (fun a ρ2 => ∃ ks xs e k, View ρ2 a.fl (.dic ks xs) ∧ b = .dt e ∧ keyU e = some k ∧ Q (.dt (.bl (!(valU ks xs k).isSome))) ρ2) X) X) : WE K W (tDNotIn ty td) ρ Q X := by
  rintro s Q0 rfl D x k
  refine h s _ rfl D x fun w b s1 n1 ok1 q => ?_
  show td s.σ s1.H _
  rw [← n1.slots]
  refine WE.flat (Q := fun a ρ2 => ∃ ks xs e k, View ρ2 a (.dic ks xs) ∧ b = .dt e ∧ keyU e = some k ∧ Q (.dt (.bl (!(valU ks xs k).isSome))) ρ2) q rfl n1.den (x.next n1.stp) fun v a s2 n2 fa ok2 ⟨ks, xs, e, ky, hv, eb, hk, q2⟩ => ?_
  subst eb
  obtain ⟨c, kvs, rfl, e1, rfl, e2⟩ := view_dic n2.den ok2 hv
  rw [at_key (show At K s1.G w e from ok1) hk]
  refine ⟨c, valV kvs ky, rfl, DGet.k e1, ?_⟩
  have es : (valV kvs ky).isSome = (valU (kvs.map (·.1)) xs ky).isSome := by
    rcases at_valU (k := ky) e2 with ⟨h1, h2⟩ | ⟨u, d2, h1, h2, _⟩
    · rw [h1, h2]
      rfl
    · rw [h1, h2]
      rfl
  rw [es]
  exact (k.lift (n1.trans n2)) _ (.dt _) s2 (Nxt.refl n2.den) (At.bl _) q2
/-- d.get(k, x) -/
theorem we_dget2 {td ty tx : TE} {Q : Av → Sls → Prop} (h : WE K W td ρ (fun a ρ1 => (∃ ks xs, View ρ1 a.fl (.dic ks xs)) ∧ WE K W ty ρ1 (fun b ρ2 => WE K W tx ρ2 (fun c ρ3 => ∃ ks xs e k z, View ρ3 a.fl (.dic ks xs) ∧ b = .dt e ∧ keyU e = some k ∧ c = .dt z ∧ Q (.dt ((valU ks xs k).getD z)) ρ3) X) X) X) : WE K W (tDGet2 td ty tx) ρ Q X := by
  rintro s Q0 rfl D x k
  refine WE.flat (Q := fun a ρ1 => (∃ ks xs, View ρ1 a (.dic ks xs)) ∧ WE K W ty ρ1 (fun b ρ2 => WE K W tx ρ2 (fun c ρ3 => ∃ ks xs e k z, View ρ3 a (.dic ks xs) ∧ b = .dt e ∧ keyU e = some k ∧ c = .dt z ∧ Q (.dt ((valU ks xs k).getD z)) ρ3) X) X) h rfl D x fun v a s1 n1 fa ok ⟨⟨_, _, w0⟩, q⟩ => ?_
  obtain ⟨c, kv0, rfl, e0, _, _⟩ := view_dic n1.den ok w0
  refine ⟨c, rfl, .inl ⟨kv0, .inl e0⟩, ?_⟩
  rw [← n1.slots]
  refine q s1 _ rfl n1.den (x.next n1.stp) fun w b s2 n2 ok2 q2 => ?_
  show tx s1.σ s2.H _
  rw [← n2.slots]
  refine q2 s2 _ rfl n2.den (x.next (n1.trans n2).stp) fun u bz s3 n3 ok3 ⟨ks, xs, e, ky, z, hv, eb, hk, ez, q3⟩ => ?_
  subst eb
  subst ez
  obtain ⟨c', kvs, ec, e1, rfl, e2⟩ := view_dic n3.den ((AvOk.next fa (n2.trans n3) ok).self fa) hv
  cases ec
  rw [at_key (show At K s2.G w e from ok2) hk]
  refine ⟨valV kvs ky, DGet.k e1, ?_⟩
  rcases at_valU (k := ky) e2 with ⟨h1, h2⟩ | ⟨v2, d2, h1, h2, h3⟩
  · rw [h2] at q3
    rw [h1]
    exact (k.lift ((n1.trans n2).trans n3)) u (.dt z) s3 (Nxt.refl n3.den) (show At K s3.G u z from ok3) q3
  · rw [h2] at q3
    rw [h1]
    exact (k.lift ((n1.trans n2).trans n3)) v2 (.dt d2) s3 (Nxt.refl n3.den) h3 q3
/-- d[k] = v: in its place, or at the end -/
def putKU {κ : Type} [DecidableEq κ] (ks : List κ) (k : κ) : List κ := if (ks.any fun n => decide (n = k)) = true then ks else ks ++ [k]
def putXU {κ : Type} [DecidableEq κ] (ks : List κ) (xs : List U) (k : κ) (d : U) : List U := if (ks.any fun n => decide (n = k)) = true then (ks.zip xs).map (fun p => if p.1 = k then d else p.2) else xs ++ [d]
theorem putK_names {κ : Type} [DecidableEq κ] (kvs : List (κ × V)) (k : κ) (v : V) : (putK kvs k v).map (·.1) = putKU (kvs.map (·.1)) k := by
  unfold putK putKU
  rw [List.any_map]
  by_cases h : (kvs.any fun kv => decide (kv.1 = k)) = true
  · rw [if_pos h, if_pos (by exact h), List.map_map]
    refine List.map_congr_left fun p _ => ?_
    show (if p.1 = k then (p.1, v) else p).1 = p.1
    split <;> rfl
  · rw [if_neg h, if_neg (by exact h), List.map_append]
    rfl
theorem zip_at {κ : Type} [DecidableEq κ] {G : Hp} {k : κ} {v : V} {d : U} (hv : At K G v d) : ∀ {kvs : List (κ × V)} {xs : List U}, AtAll K G (kvs.map (·.2)) xs → AtAll K G ((kvs.map (fun kv => if kv.1 = k then (kv.1, v) else kv)).map (·.2)) (((kvs.map (·.1)).zip xs).map (fun p => if p.1 = k then d else p.2))
  | [], _, .nil => .nil
  | (n, z) :: r, x :: xs, .cons h t => by
    show AtAll K G ((if n = k then (n, v) else (n, z)).2 :: _) ((if n = k then d else x) :: _)
    by_cases e : n = k
    · rw [if_pos e, if_pos e]
      exact .cons hv (zip_at hv t)
    · rw [if_neg e, if_neg e]
      exact .cons h (zip_at hv t)
theorem putK_at {κ : Type} [DecidableEq κ] {G : Hp} {kvs : List (κ × V)} {xs : List U} {k : κ} {v : V} {d : U} (hv : At K G v d) (h : AtAll K G (kvs.map (·.2)) xs) : AtAll K G ((putK kvs k v).map (·.2)) (putXU (kvs.map (·.1)) xs k d) := by
  unfold putK putXU
  rw [List.any_map]
  by_cases e : (kvs.any fun kv => decide (kv.1 = k)) = true
  · rw [if_pos e, if_pos (by exact e)]
    exact zip_at hv h
  · rw [if_neg e, if_neg (by exact e), List.map_append]
    exact h.snoc hv
theorem ws_dput {j : Nat} {ty tv : TE} (h : WE K W tv ρ (fun a ρ1 => ∃ d ρ2, Frz ρ1 [a.fl] [d] ρ2 ∧ (∃ sl ks xs, ρ2[j]? = some sl ∧ sl.cell = some (.dic ks xs)) ∧ WE K W ty ρ2 (fun b ρ3 => ∃ e k sl ks xs, b = .dt e ∧ keyU e = some k ∧ ρ3[j]? = some sl ∧ sl.cell = some (.dic ks xs) ∧ ks.length < 100000 ∧ P.nx (setC ρ3 j (.dic (putKU ks k) (putXU ks xs k d)))) P.xc) P.xc) :
    WS K W (sDPut (tVar j) ty tv) ρ P := by
  rintro s D rfl d x fi
  refine WE.flat (Q := fun a ρ1 => ∃ d ρ2, Frz ρ1 [a] [d] ρ2 ∧ (∃ sl ks xs, ρ2[j]? = some sl ∧ sl.cell = some (.dic ks xs)) ∧ WE K W ty ρ2 (fun b ρ3 => ∃ e k sl ks xs, b = .dt e ∧ keyU e = some k ∧ ρ3[j]? = some sl ∧ sl.cell = some (.dic ks xs) ∧ ks.length < 100000 ∧ P.nx (setC ρ3 j (.dic (putKU ks k) (putXU ks xs k d)))) P.xc) h rfl d x fun v a s1 n1 fa ok ⟨z, ρ2, hf, hc, q⟩ => ?_
  obtain ⟨s2, e1, e2, n2, hz⟩ := frz1 hf fa n1.den ok
  subst e1
  obtain ⟨sl, ks, xs, c1, c2⟩ := hc
  obtain ⟨b, o, e3, e4, e5, e6⟩ := n2.den.own j sl _ c1 c2
  have n12 := n1.trans n2
  have eσ : s.σ[j]? = some (some (.ref b)) := by rw [← n12.slots]; exact e3
  refine ⟨.ref b, eσ, ?_⟩
  rw [← e2, ← n12.slots]
  refine q s2 _ rfl n2.den (x.next n12.stp) fun w bv s3 n3 ok3 ⟨e, ky, sl', ks', xs', eb, hk, c3, c4, c5, q3⟩ => ?_
  subst eb
  rw [at_key (show At K s3.G w e from ok3) hk]
  obtain ⟨b', o', e7, e8, e9, e10⟩ := n3.den.own j sl' _ c3 c4
  have e7' : s3.σ[j]? = some (some (.ref b)) := by rw [n3.slots]; exact e3
  rw [e7'] at e7
  cases e7
  cases e10 with
  | dic hx =>
    rename_i kvs
    refine ⟨b, _, rfl, DPut.k e9 (Nat.lt_of_lt_of_le (by rw [← List.length_map (f := (·.1))]; exact c5) (by decide)), ?_⟩
    have nw := cell_write (o' := .dK (putK kvs ky v)) (d' := .dic (putKU (kvs.map (·.1)) ky) (putXU (kvs.map (·.1)) xs' ky z)) n3.den c3 c4 e7' e9 (putK_names kvs ky v ▸ .dic (putK_at (At.mono n3.stp.sub _ _ hz) hx))
    have := fi.nx _ (n12.stp.trans (n3.stp.trans nw.stp)) nw.den q3
    rw [show ({ s3 with ρ := setC s3.ρ j (.dic (putKU (kvs.map (·.1)) ky) (putXU (kvs.map (·.1)) xs' ky z)), H := upd s3.H b (.dK (putK kvs ky v)) } : Sta).σ = s2.σ from n3.slots] at this
    exact this
/-! ### operators of own objects -/
def tyV : U → Option Value
  | .obj C _ _ => some (.ref C)
  | d => if plainU d = true then some (tyU d) else none
theorem at_tyO {s : Sta} {v : V} {av : Av} {d : U} {t : Value} (D : Den K s) (ok : AvOk K s s v av) (w : View s.ρ av d) (e : tyV d = some t) : TyO K s.H v t := by
  cases d
  case obj C ns xs =>
    obtain ⟨a, dx, fs, rfl, e1, _, _⟩ := view_obj D ok w
    cases e
    exact .inr ⟨a, C, dx, fs, rfl, e1, rfl⟩
  all_goals (unfold tyV at e; split at e; · (rename_i z; cases z; done))
  all_goals (split at e; · (rename_i p; cases e; exact .inl (at_ty (view_at D ok w) p)))
  all_goals cases e
theorem wr_inOwn {C : Addr} {R : RU} {neg : Bool} {a b : Av} {ns : List Str} {xs : List U} {Q : Av → Sls → Prop} (fa : a.flat) (fb : b.flat) (hb : View ρ b (.obj C ns xs)) (h : CallU R [b, a] ρ (fun r ρ' => ∃ c, r = .dt (.bl c) ∧ Q (.dt (.bl (if neg then !c else c))) ρ') (fun _ _ => False)) : WR K W (rInOwn C (spU K R) E0 neg) a b ρ Q X := by
  rintro s v w Q0 rfl D _ h1 h2 k
  obtain ⟨o, dx, fs, rfl, e1, _, _⟩ := view_obj D h2 hb
  refine ⟨o, dx, fs, rfl, e1, h.run D (.cons fb h2 (.cons fa h1 .nil)) (fun u av s' n ok ⟨c, e, q⟩ => ?_) fun _ _ _ _ _ _ _ _ z => z.elim⟩
  subst e
  have ok : At K s'.G u (.bl c) := ok
  cases ok
  exact ⟨c, rfl, k _ (.dt _) s' n (At.bl _) q⟩
theorem wr_eqOwn {C : Addr} {R : RU} {a b : Av} {ns : List Str} {xs : List U} {d : U} {t : Value} {Q : Av → Sls → Prop} (fa : a.flat) (fb : b.flat) (ha : View ρ a (.obj C ns xs)) (hb : View ρ b d) (ht : tyV d = some t) (hn : PySem.W.notFirst K C t = true) (h : CallU R [a, b] ρ Q (fun _ _ => False)) : WR K W (rEqOwn K C (spU K R) E0) a b ρ Q X := by
  rintro s v w Q0 rfl D _ h1 h2 k
  obtain ⟨o, dx, fs, rfl, e1, _, _⟩ := view_obj D h1 ha
  exact ⟨o, dx, fs, t, rfl, e1, at_tyO D h2 hb ht, hn, h.run D (.cons fa h1 (.cons fb h2 .nil)) k fun _ _ _ _ _ _ _ _ z => z.elim⟩
theorem wr_neOwn {C : Addr} {R : RU} {a b : Av} {ns : List Str} {xs : List U} {d : U} {t : Value} {Q : Av → Sls → Prop} (fa : a.flat) (fb : b.flat) (ha : View ρ a (.obj C ns xs)) (hb : View ρ b d) (ht : tyV d = some t) (hn : PySem.W.notFirst K C t = true)
    (h : CallU R [a, b] ρ (fun r ρ' => ∃ c, r = .dt (.bl c) ∧ Q (.dt (.bl (!c))) ρ') (fun _ _ => False)) : WR K W (rNeOwn K C (spU K R) E0) a b ρ Q X := by
  rintro s v w Q0 rfl D _ h1 h2 k
  obtain ⟨o, dx, fs, rfl, e1, _, _⟩ := view_obj D h1 ha
  refine ⟨o, dx, fs, t, rfl, e1, at_tyO D h2 hb ht, hn, h.run D (.cons fa h1 (.cons fb h2 .nil)) (fun u av s' n ok ⟨c, e, q⟩ => ?_) fun _ _ _ _ _ _ _ _ z => z.elim⟩
  subst e
  have ok : At K s'.G u (.bl c) := ok
  cases ok
  exact ⟨c, rfl, k _ (.dt _) s' n (At.bl _) q⟩
theorem wr_addOwn {C : Addr} {R : RU} {a b : Av} {ns : List Str} {xs : List U} {d : U} {n : String} {Q : Av → Sls → Prop} (fa : a.flat) (fb : b.flat) (ha : View ρ a (.obj C ns xs)) (hb : View ρ b d) (hp : plainU d = true) (ht : tyU d = .type n) (hn : AddT K C n) (h : CallU R [a, b] ρ Q (fun _ _ => False)) : WR K W (rAddOwn K C (spU K R) E0) a b ρ Q X := by
  rintro s v w Q0 rfl D _ h1 h2 k
  obtain ⟨o, dx, fs, rfl, e1, _, _⟩ := view_obj D h1 ha
  exact ⟨o, dx, fs, n, rfl, e1, ht ▸ at_ty (view_at D h2 hb) hp, hn, h.run D (.cons fa h1 (.cons fb h2 .nil)) k fun _ _ _ _ _ _ _ _ z => z.elim⟩
theorem wc_lenOwn {C : Addr} {R : RU} {a : Av} {ns : List Str} {xs : List U} {Q : Av → Sls → Prop} (fa : a.flat) (ha : View ρ a (.obj C ns xs)) (h : CallU R [a] ρ (fun r ρ' => ∃ k : Nat, r = .dt (.int k) ∧ k < 100000 ∧ Q (.dt (.int k)) ρ') (fun _ _ => False)) :
    WC K W (fun xs H Q => ∃ a dx fs, xs = [.ref a] ∧ H a = some (.ins C dx fs) ∧ spU K R [.ref a] H (fun v H' => ∃ k : Nat, v = .int k ∧ k < 100000 ∧ Q (.int k) H') E0) [a] ρ Q X := by
  rintro s vs Q0 rfl D _ h0 k
  obtain ⟨v, rfl, h1⟩ := avs_one h0
  obtain ⟨o, dx, fs, rfl, e1, _, _⟩ := view_obj D h1 ha
  refine ⟨o, dx, fs, rfl, e1, h.run D (.cons fa h1 .nil) (fun u av s' n ok ⟨c, e, hc, q⟩ => ?_) fun _ _ _ _ _ _ _ _ z => z.elim⟩
  subst e
  have ok : At K s'.G u (.int c) := ok
  cases ok
  exact ⟨c, rfl, hc, k _ (.dt _) s' n (At.int _) q⟩
end

theorem ps_never {X : Cx} {st : Stmt} : PS X st (fun _ _ _ => False) := ⟨fun pins s σ H D I h => h.elim⟩
/-! ### own error classes over any built-in one: a field is stored -/
structure OexG (K : PySem.W.Frag) (C : Addr) : Prop where
  base : ∃ (B nI iI : String) (bm : List Value), ExcBaseFacts B nI iI bm ∧ StoreFacts B bm "object.__setattr__" "object" ∧ PySem.W.excInitIn K C bm nI = true ∧ PySem.W.excOver K C bm = true
  hd : PySem.W.hasDictIn K C = true
  sa : PySem.W.findIn K (.ref C) "__setattr__" = some (some (.builtin "object.__setattr__"))
  ex : PySem.W.subIn K (.ref C) (.type "BaseException") = some true
  ty : PySem.W.typeIn K (.ref C) = some (.type "type")
  kp : PySem.W.keepIn K (.ref C) = true
section
variable {X : Cx} {pins : List (Addr × Obj)} {σ : L2.St} {H : Hp} {s : Shared} {a C : Addr} {f : Str} {y : V} {u : Value} {Q : Unit → Shared → Prop} {E : Value → Shared → Prop} {A : Around}
open Builtin Builtin.ObjectAttr in
theorem store_first (T : OexG X.K C) (I : L2.Inv X pins σ H s) (ea : H a = some (exo a C none)) (hno : PySem.W.findIn X.K (.ref C) f = some none) (ry : RelV y u)
    (go : ∀ dn s2, H dn = none → dn ≠ a → L2.Inv X pins σ (upd (upd H dn (exd dn [(f, y)])) a (exo a C (some dn))) s2 → Q () s2) : wpAny (model X.prog X.w) A (setAttr (.ref a) f u) Q E s := by
  obtain ⟨B, nI, iI, bm, FB, SF, q1, q2⟩ := T.base
  obtain ⟨tp, hx⟩ := exo_at I.hok ea
  obtain ⟨cd, hcd, hdic⟩ : ∃ cd, PySem.W.clsIn X.K C = some cd ∧ cd.hasDict = true := PySem.W.any_some T.hd
  obtain ⟨h0, gs, dr, tk, os⟩ := s
  have J : PySem.W.InstAt h0 a { cls := .ref C, dict := none, data := .fields #[.ref tp, .none, .none, .none, .bool false, .none] } C none := ⟨hx, rfl, rfl, trivial⟩
  have nD : H h0.objs.size = none := I.hok.fresh (Nat.le_refl _)
  have far : a ≠ h0.objs.size := Nat.ne_of_lt (Heap.lt_size hx)
  have oldA : ∀ {b : Addr}, H b = none → b ≠ a := fun e z => by rw [z, ea] at e; cases e
  have oldD : ∀ {b : Addr} {w : Obj}, h0.get? b = some w → b ≠ h0.objs.size := fun e => Nat.ne_of_lt (Heap.lt_size e)
  -- what is tracked stays, the error and its dict are new
  have other : ∀ {b : Addr} {o : HO}, H b = some o → (∀ d, exo a C d ≠ o) → upd (upd H h0.objs.size (exd h0.objs.size [(f, y)])) a (exo a C (some h0.objs.size)) b = some o := fun {b o} e ne => by
    rw [upd_ne (fun z => ne none (by rw [z, ea] at e; exact Option.some.inj e)), upd_ne (ne_of_none e nD)]
    exact e
  have made : ∀ (h2 : Heap) {tk2 : Nat}, (∀ b w, b ≠ a → h0.get? b = some w → h2.get? b = some w) →
      h2.get? a = some ({ cls := .ref C, dict := some h0.objs.size, data := .fields #[.ref tp, .none, .none, .none, .bool false, .none] } : Obj) →
      h2.Ns1 h0.objs.size (fun z => if z = f then some u else none) → Q () ⟨h2, gs, dr, tk2, os⟩ := fun h2 tk2 stay now n1 => by
    refine go h0.objs.size _ nD (Ne.symm far) (I.un (t' := tk2) ⟨fun b w e n _ _ => stay b w (oldA n) e, fun b w e n _ _ => ⟨w.slots, stay b w (oldA n) e⟩, fun b w e n _ => ?_, fun b w e _ => ?_, fun b xs e => other e fun _ => exo_tup, fun b w v e => other e fun _ => exo_frz, fun b ps e => ⟨#[], ?_⟩⟩ fun b o e => ?_)
    · rw [upd_ne (oldA n), upd_ne (oldD e)]
      exact n
    · by_cases z : b = a
      · rw [z]
        exact ⟨_, now⟩
      · exact ⟨w, stay b w z e⟩
    · rw [Array.append_empty]
      exact other e fun _ => exo_tbl
    · by_cases z : b = a
      · subst z
        rw [upd_same] at e
        cases e
        exact exo_ok now
      · rw [upd_ne z] at e
        by_cases z2 : b = h0.objs.size
        · subst z2
          rw [upd_same] at e
          cases e
          exact exd_ok n1 (relO_put (fs := []) ry fun _ => trivial)
        · rw [upd_ne z2] at e
          refine (I.hok b o e).stay (fun c w hc g => stay c w (fun q => ?_) g) (fun c hc => other hc fun _ => exo_own) fun c xs hc => other hc fun _ => exo_tup
          rcases hc with hc | hc
          · exact z (hc ▸ q)
          · rw [q, ea] at hc
            exact exo_own (Option.some.inj hc)
  refine PySem.W.set_plain I.kIn J T.sa (PySem.W.osa_openX SF I.kIn J q2 (r := none) (by unfold PySem.W.takerIn; rw [hno]; rfl) fun onType => ?_)
  have look : PySem.W.Looks (model X.prog X.w) h0 (classData C) cd := PySem.W.looks_clsIn I.kIn hcd
  obtain ⟨nm, bs, mro, ns, qn, hd, sn, sb, ab, col, del⟩ := cd
  obtain rfl : hd = true := hdic
  show wpAny _ _ (storeInOwnDict _ _ _ _ _ onType) _ _ _
  unfold storeInOwnDict ownDictForStores
  repeat (first
    | with_reducible refine wpAny_loadPart_at hx ?_
    | with_reducible refine look.at ?_
    | with_reducible refine PySem.HandSPX.store_in_new ?_ ?_
    | wp_step)
  · exact ⟨_, #[], _, (Heap.get?_update_ne _ _ _ _ (Ne.symm far)).trans (Heap.get?_push_at rfl rfl), rfl, fun en hen => absurd hen (by simp), fun _ => rfl⟩
  intro h2 tk2 n1 same
  have hxp : (h0.push { cls := .type "dict", data := .dict #[] }).get? a = some ({ cls := .ref C, data := .fields #[.ref tp, .none, .none, .none, .bool false, .none] } : Obj) := Heap.get?_push_of_some _ hx
  have stay : ∀ b w, b ≠ a → h0.get? b = some w → h2.get? b = some w := fun b w nb e =>
    (same.2 b (Nat.ne_of_lt (Heap.lt_size e))).trans ((Heap.get?_update_ne _ _ _ _ nb).trans (Heap.get?_push_of_some _ e))
  have now : h2.get? a = some ({ cls := .ref C, dict := some h0.objs.size, data := .fields #[.ref tp, .none, .none, .none, .bool false, .none] } : Obj) := (same.2 a far).trans (Heap.get?_update_self _ hxp rfl)
  exact made _ stay now n1
open Builtin Builtin.ObjectAttr in
theorem store_more {dn : Addr} {fs : List (Str × V)} (T : OexG X.K C) (I : L2.Inv X pins σ H s) (ea : H a = some (exo a C (some dn))) (ed : H dn = some (exd dn fs)) (hl : fs.length ≤ 900) (hno : PySem.W.findIn X.K (.ref C) f = some none) (ry : RelV y u)
    (go : ∀ s2, L2.Inv X pins σ (upd H dn (exd dn ((f, y) :: fs))) s2 → Q () s2) : wpAny (model X.prog X.w) A (setAttr (.ref a) f u) Q E s := by
  obtain ⟨B, nI, iI, bm, FB, SF, q1, q2⟩ := T.base
  obtain ⟨tp, hx⟩ := exo_at I.hok ea
  obtain ⟨mD, n1, rel⟩ := exd_at I.hok ed
  have wi := within_of rel
  obtain ⟨cd, hcd, hdic⟩ : ∃ cd, PySem.W.clsIn X.K C = some cd ∧ cd.hasDict = true := PySem.W.any_some T.hd
  obtain ⟨h0, gs, dr, tk, os⟩ := s
  obtain ⟨oD, _, _, gD, _, _⟩ := n1.count wi
  have J : PySem.W.InstAt h0 a { cls := .ref C, dict := some dn, data := .fields #[.ref tp, .none, .none, .none, .bool false, .none] } C (some oD) := ⟨hx, rfl, rfl, gD⟩
  refine PySem.W.set_plain I.kIn J T.sa (PySem.W.osa_openX SF I.kIn J q2 (r := none) (by unfold PySem.W.takerIn; rw [hno]; rfl) fun onType => ?_)
  have look : PySem.W.Looks (model X.prog X.w) h0 (classData C) cd := PySem.W.looks_clsIn I.kIn hcd
  obtain ⟨nm, bs, mro, ns, qn, hd, sn, sb, ab, col, del⟩ := cd
  obtain rfl : hd = true := hdic
  show wpAny _ _ (storeInOwnDict _ _ _ _ _ onType) _ _ _
  unfold storeInOwnDict ownDictForStores
  repeat (first
    | with_reducible refine PySem.OEX.store_in_old n1 wi (by rw [List.length_map]; omega) ?_
    | with_reducible refine wpAny_loadPart_at hx ?_
    | with_reducible refine look.at ?_
    | wp_step)
  intro h2 tk2 n2 same
  have there : ∃ w, h2.get? dn = some w := by
    obtain ⟨w, _, _, e, _⟩ := n2
    exact ⟨w, e⟩
  exact go _ (I.write (t' := tk2) (x := dn) (e := dn) (o := exd dn ((f, y) :: fs)) (by rw [ed]; trivial) (.inl rfl) (fun b w nb e => (same.2 b nb).trans e) there (exd_ok n2 (relO_put ry rel)))
end
/-- o.f = e, o an error that is being made -/
def tOstG (K : PySem.W.Frag) (f : Str) (to te : TE) : TS := fun D σ H => te σ H fun y H1 => to σ H1 fun x H2 => ∃ a C : Addr, x = .ref a ∧ OexG K C ∧ PySem.W.findIn K (.ref C) f = some none ∧
  ((H2 a = some (exo a C none) ∧ ∀ dn, H2 dn = none → dn ≠ a → D.nx σ (upd (upd H2 dn (exd dn [(f, y)])) a (exo a C (some dn)))) ∨
    ∃ (dn : Addr) (fs : List (Str × V)), H2 a = some (exo a C (some dn)) ∧ H2 dn = some (exd dn fs) ∧ fs.length ≤ 900 ∧ D.nx σ (upd H2 dn (exd dn ((f, y) :: fs))))
section
variable {X : Cx} {o e : Expr} {es : List Expr} {to te : TE} {ta : TA} {f : Str} {p p2 pos : Pos}
theorem ps_ostG (ho : PE X o to) (he : PE X e te) (hs : swapsWith e (some (.Attribute o f p2)) pos.line X.env = pure false := by rfl) : PS X (.Assign [.Attribute o f p2] e pos) (tOstG X.K f to te) := by
  refine ⟨fun pins s σ H D I red => plainObj_wpAny_Assign_Attribute (thn (he.run pins s σ H _ I red) fun v s1 hv => ?_) hs⟩
  obtain ⟨y, H1, I1, ry, q1⟩ := hv
  refine thn (ho.run pins s1 σ H1 _ I1 q1) fun u s2 hu => ?_
  obtain ⟨x, H2, I2, rx, a, C, ex, T, hno, q⟩ := hu
  subst ex
  obtain rfl : u = Value.ref a := rx
  rcases q with ⟨ea, q⟩ | ⟨dn, fs, ea, ed, hl, q⟩
  · exact store_first T I2 ea hno ry fun dn s3 n ne J => ⟨σ, _, J, q dn n ne⟩
  · exact store_more T I2 ea ed hl hno ry fun s3 J => ⟨σ, _, J, q⟩
/-- C(e, ..), C's own __init__ keeping sp -/
theorem pmk_oexG {CX : CXT} {x : Str} {C i : Addr} {k : Nat} {fd : FuncData} {ps : List Str} {sp : Sp} (T : OexG X.K C) (hi : PySem.W.findIn X.K (.ref C) "__init__" = some (some (.ref i))) (ti : PySem.W.typeIn X.K (.ref i) = some (.type "function"))
    (F : FnOk X.prog X.w X.K X.mg X.base CX k i fd ps sp) (hr : Room (k + 1) X.A) (hb : Binds X.K fd ps []) (hx : Passes CX X E0) (hg : Gl X x) (hm : X.mg x = some (.ref C)) (ha : PA X (e :: es) ta)
    (hd : (x == ("__debug__" : Str)) = false := by decide) (h1 : starEach (e :: es) X.env = (false, eval e X.env) :: starEach es X.env := by rfl) (h2 : (backTo pos (starEach es X.env)).any (·.1) = false := by rfl) :
    PMk X (.Call (.Name x p) (e :: es) [] pos) (tMkO C sp [] ta) := by
  intro pins s σ H Q I red
  obtain ⟨B, nI, iI, bm, FB, SF, q1, q2⟩ := T.base
  refine wpAny_Call_Name_kw (ld_glob I hg hm ?_ hd)
  refine PySem.W.callWith_K (h₀ := X.base) I.ok.mod.kin T.kp (thn (ha.run pos pins s σ H _ I red) fun us s1 hu => ?_) h1 h2
  obtain ⟨vs, H1, I1, rv, len, q⟩ := hu
  refine ⟨I1.kIn, ?_⟩
  obtain ⟨nm, N, qn, bs, mro, hdct, sn, sub, ab, col, dd, k0, k1, k2, k3, k5, hC, hT⟩ := PySem.W.excInit_of I1.kIn q1
  obtain ⟨h0, gs, dr, tk, os⟩ := s1
  show wpAny _ _ (call (.ref C) us) _ _ _
  have new : H1 (h0.objs.size + 1) = none := I1.hok.fresh (Nat.le_succ _)
  have q := q _ new
  have at_ : ((h0.push (PySem.W.kdv_tup us)).push (PySem.HandSPX.excO C h0.objs.size)).get? (h0.objs.size + 1) = some (PySem.HandSPX.excO C h0.objs.size) := by heap_get
  have old : ∀ b w, h0.get? b = some w → ((h0.push (PySem.W.kdv_tup us)).push (PySem.HandSPX.excO C h0.objs.size)).get? b = some w := fun b w e => Heap.get?_push_of_some _ (Heap.get?_push_of_some _ e)
  have I2 := I1.laid (t' := tk) (o := exo (h0.objs.size + 1) C none) old (Nat.le_succ _) (exo_ok at_)
  have rs : Vals (V.ref (h0.objs.size + 1) :: vs) (Value.ref (h0.objs.size + 1) :: us) := .cons rfl rv
  rw [List.append_nil] at q
  have lens : (Value.ref (h0.objs.size + 1) :: us).length = ps.length := rs.length.symm.trans (F.len _ _ _ _ q)
  have bnd := hb _ (Value.ref (h0.objs.size + 1) :: us) I2.kIn (by rw [List.append_nil]; exact lens)
  rw [List.append_nil] at bnd
  have go := F.run _ X.stack _ _ ⟨Value.ref (h0.objs.size + 1) :: us, []⟩ _ _ _ _ (hr.make C us []) (I2.env0.make C us []) bnd rs q
  refine wpAny_call (PySem.HandSPX.call_own FB hT hC (PySem.W.looks_findIn I1.kIn hi) (fun self => PySem.W.bind_fn I1.kIn self ti) (by rw [← rv.length, sizeLine_eq]; omega) (codeAny_mono go fun r s2 hq => ?_))
  match r, hq with
  | .error x, hq => exact hx pins σ _ _ x s2 I2 hq
  | .ok (.ret u), hq =>
    obtain ⟨v, H2, os2, bare2, un2, hok2, rz, ev, d, fs, ea, ed, hd1, q3⟩ := hq
    subst ev
    obtain ⟨h2, g2, d2, t2, o2⟩ := s2
    exact ⟨rz, mk_end (raises_own T.ex T.ty) I1 (Nat.le_succ _) old un2 hok2 os2 bare2 ea ed hd1 q3⟩
  | .ok .next, hq => exact False.elim hq
  | .ok .brk, hq => exact False.elim hq
  | .ok .cont, hq => exact False.elim hq
end

/-! ### an own error as a value -/
section
variable {X : Cx} {pins : List (Addr × Obj)} {σ : L2.St} {H : Hp} {a : Addr} {o : HO}
theorem inv_lay {s1 s2 : Shared} (J : L2.Inv X pins σ H s1) (k : ∀ b w, s1.heap.get? b = some w → s2.heap.get? b = some w) (g : s1.heap.get? a = none) (na : H a = none) (eo : s2.os = s1.os) (eb : AllBare s2.gens) (new : ObjOk X.prog X.w (upd H a o) s2.heap a o) : L2.Inv X pins σ (upd H a o) s2 := by
  have Z := L2.Inv.laidN (t' := s2.toks) J k g na new
  exact ⟨Z.ok, eo.trans Z.os, eb, Z.base, Z.loc, Z.cell, Z.free, Z.freeC, Z.pin, Z.hok, Z.len⟩
def tMkV (t : L2.St → Hp → XK → Prop) : TE := fun σ H Q => t σ H fun cls dd H2 => ∀ a, H2 a = none → Q (.ref a) (upd H2 a (ExK cls dd a))
theorem pe_ofMk {e : Expr} {t : L2.St → Hp → XK → Prop} (h : PMk X e t) : PE X e (tMkV t) := by
  refine ⟨fun pins s σ H Q I red => wpAny_mono (h pins s σ H _ I red) (fun u s2 hu => ?_) fun _ _ z => z⟩
  obtain ⟨a, oe, vs, s1, H2, cls, dd, rfl, J, k, g, there, z, d, _, na, eo, eb, _, q⟩ := hu
  exact ⟨.ref a, _, inv_lay J k g na eo eb (exK_ok there z d), rfl, q a na⟩
end
section
variable {X : Cx}
/-- C(), C without an __init__ of its own -/
theorem pe_excN {C : Addr} {bm : List Value} {B nI iI : String} {x : Str} {p pos : Pos} (F : ExcBaseFacts B nI iI bm) (q : PySem.W.excIn X.K C bm nI = true) (gC : X.mg x = some (.ref C)) (kC : PySem.W.keepIn X.K (.ref C) = true) (hg : Gl X x) (hd : (x == ("__debug__" : Str)) = false := by decide) :
    PE X (.Call (.Name x p) [] [] pos) (fun σ H Q => ∀ a, H a = none → Q (.ref a) (upd H a (ExK (.ref C) none a))) := by
  refine ⟨fun pins s σ H Q I red => ?_⟩
  refine wpAny_Call_Name_kw (ld_glob I hg gC ?_ hd)
  refine PySem.W.callWith_K0 I.kIn kC ?_
  obtain ⟨mro, N, nm, qn, bs, hdct, sn, sub, ab, col, dd, k0, k1, k2, k3, k5, mN, hC, hN, hni, OT⟩ := exc_obj I.kIn q
  obtain ⟨h0, gs, dr, tk, os⟩ := s
  show wpAny _ _ (call (.ref C) []) _ _ _
  refine wpAny_call_exc_subT F OT hC hN hni (fun h2 a made => ?_) (Nat.zero_le _)
  obtain ⟨t, at_, _, _⟩ := made.there
  have na : H a = none := I.hok.gone made.new
  exact ⟨.ref a, _, L2.Inv.laidN I made.keeps made.new na (exK_ok at_ ⟨rfl, rfl⟩ rfl), rfl, red a na⟩
end

/-! ### a def that is called from a place where no repr is under way -/
def GOk (P : Program) (w : World) (K : PySem.W.Frag) (mg : Str → Option Value) (base : Heap) (k : Nat) (f : Addr) (fd : FuncData) (ps : List Str) (sp : Sp) : Prop :=
  ∀ (A : Around) (outer : List PySem.Env) (s : Shared) (H : Hp) (us : List Value) (vs : List V) (Q : VK) (E : XK), A.guards = some [] → Room k A → Env0 P w K mg base A outer s H → BindsTo s fd ⟨us, []⟩ (ps.zip us) → Vals vs us → sp vs H Q E →
    codeAny (model P w) A (.call (.ref f) ⟨us, []⟩) (CR CX0 outer P w H s Q E) s
theorem gOk_of {P : Program} {w : World} {K : PySem.W.Frag} {mg : Str → Option Value} {base : Heap} {x qual : Str} {st : Stmt} {f : Addr} {fd : FuncData} {N ps : List Str} {k : Nat} {R : RU} (F : Fun K x qual st f fd) (S : FnScope N ps (defScope st)) (hn : ∀ ρ Q X, R ρ Q X → ρ.length = ps.length)
    (hbody : ∀ (cdv : Value) (A : Around) (outer : List PySem.Env) (s : Shared) (H : Hp) (E : XK), Room k (A.deeper (envOfC qual (defScope st) s.heap.objs.size f cdv)) → (A.deeper (envOfC qual (defScope st) s.heap.objs.size f cdv)).guards = some [] →
      ∃ t, PSs (cxOf CX0 P w K mg base N qual (defScope st) f cdv A outer s H E).nox (defBody st) t ∧
        ∀ (W : Wx) (ρ : Sls) (Qd : Av → Sls → Prop) (Xd : Er → Sls → Prop), R ρ Qd Xd →
          WS K W t (ρ ++ List.replicate (N.length - ps.length) .un) { nx := fun ρ' => Qd (.dt .non) (out ρ ρ'), rt := fun a ρ' => a.ns ∧ Qd a (out ρ ρ'), xc := fun e ρ' => Xd e (out ρ ρ') }) :
    GOk P w K mg base (k + 1) f fd ps (spU K R) := by
  intro A outer s H us vs Q E hg hr e0 hb r h
  obtain ⟨oc, od, kV, doc, pm, an, cdv, ct, osl, rfl, lk, hcd⟩ := F.ex
  have hl : vs.length = ps.length := spU_len h hn
  refine LamX.run_ofS lk hcd S hr e0 hb r hl fun hr2 => ?_
  obtain ⟨t, ht, hw⟩ := hbody cdv A outer s H E hr2 hg
  refine ⟨t, ht.nox, body_U h fun ρ Qd Xd hρ hR => ?_⟩
  have e : vs.length = ps.length := hl
  rw [e]
  exact hw _ ρ Qd Xd hR
/-- the law, called at the top, from a heap of which at most the script is tracked -/
theorem top_run {P : Program} {w : World} {K : PySem.W.Frag} {mg mb : Str → Option Value} {k : Nat} {f a : Addr} {fd : FuncData} {x : Str} {sp : Sp} {s : Shared} {its : List Value} {H : Hp}
    (hK : K.In s.heap) (hG : s.heap.Ns mainGlobals mg) (hB : s.heap.Ns builtinsNs mb) (hBB : ∀ x : Str, x ≠ "__name__" → mb x = bootBuiltins x) (hL : s.heap.NoLimit) (hg : s.gens = #[])
    (ha : s.heap.get? a = some { cls := .type "list", data := .seq its.toArray }) (hr : Room k callerA) (F : ∀ base : Heap, K.In base → base.Ns mainGlobals mg → GOk P w K mg base k f fd [x] sp)
    (bnd : ∀ (s : Shared) (u : Value), BindsTo s fd ⟨[u], []⟩ [(x, u)]) (hO : Only H) (hsp : sp [.ref a] H (fun v _ => v = .bl true) E0) (hok : HOk P w H s.heap) (at_ : ∀ b, H b ≠ none → b = a) (out_ : H a ≠ none → K.lookup a = none) :
    codeAny (model P w) callerA (.call (.ref f) ⟨[.ref a], []⟩) (fun r s2 => r = .ok (.ret (.bool true)) ∧ OldK s.heap s2.heap ∧ s2.os = s.os ∧ AllBare s2.gens) s := by
  have none_of : ∀ {b : Addr}, b ≠ a → H b = none := fun {b} n => Classical.byContradiction fun h => n (at_ b h)
  have dict_none : ∀ {b : Addr} {w : Obj} {es : Array DictEntry} {n : Nat}, s.heap.get? b = some w → w.data = .dict es n → H b = none := fun {b w es n} e d => none_of fun z => by
    rw [z, ha] at e
    cases e
    cases d
  have ns : ∀ {b : Addr} {m : Str → Option Value}, s.heap.Ns b m → (hidT s.heap H).Ns b m := fun ⟨w, es, n, e, d, r⟩ => ⟨w, es, n, hidT_get e (dict_none e d), d, r⟩
  have kin : K.In (hidT s.heap H) := fun b w e => hidT_get (hK b w e) (Classical.byContradiction fun h => by
    have z := at_ b h
    rw [z] at e h
    rw [out_ h] at e
    cases e)
  obtain ⟨ml, l1, l2⟩ := hL
  have md : Mod K mg (hidT s.heap H) := ⟨kin, ns hG, ⟨mb, ns hB, hBB⟩, ⟨ml, ns l1, l2⟩⟩
  have e0 : Env0 P w K mg (hidT s.heap H) callerA [] s H := ⟨rfl, md, fun _ _ e => of_hidT e, Nat.le_of_eq (hidT_size _ _), trivial, fun b hb => (nomatch hb), hok, .of_eq hg⟩
  refine codeAny_mono (F _ kin (ns hG) callerA [] s H [.ref a] [.ref a] _ _ rfl hr e0 (bnd s (.ref a)) (.cons rfl .nil) hsp) fun r s2 h => ?_
  match r, h with
  | .error x, h => exact h.elim
  | .ok .next, h => exact h.elim
  | .ok .brk, h => exact h.elim
  | .ok .cont, h => exact h.elim
  | .ok (.ret u), h =>
    obtain ⟨v, H2, eo, eb, un, hok2, rv, q⟩ := h
    obtain rfl : v = .bl true := q
    obtain rfl : u = Value.bool true := rv
    refine ⟨rfl, OldK.of_keep fun b w e => ?_, eo, eb⟩
    rcases hO b with n | ⟨ob, xs, t⟩
    · exact un.keep b w e n (fun z => nomatch z) fun z => nomatch z
    · obtain ⟨p1, _⟩ := hok b _ t
      obtain ⟨p2, _⟩ := hok2 b _ (un.frzs b ob _ t)
      rw [e] at p1
      cases p1
      exact p2
theorem top_call {P : Program} {w : World} {K : PySem.W.Frag} {mg mb : Str → Option Value} {k : Nat} {f a : Addr} {fd : FuncData} {x : Str} {sp : Sp} {s : Shared} {its : List Value} {ns : List Int}
    (hK : K.In s.heap) (hG : s.heap.Ns mainGlobals mg) (hB : s.heap.Ns builtinsNs mb) (hBB : ∀ x : Str, x ≠ "__name__" → mb x = bootBuiltins x) (hL : s.heap.NoLimit) (hg : s.gens = #[])
    (ha : s.heap.get? a = some { cls := .type "list", data := .seq its.toArray }) (hi : IntsAre its ns) (len : ns.length ≤ sizeLine) (hr : Room k callerA) (F : ∀ base : Heap, K.In base → base.Ns mainGlobals mg → GOk P w K mg base k f fd [x] sp)
    (bnd : ∀ (s : Shared) (u : Value), BindsTo s fd ⟨[u], []⟩ [(x, u)]) (hsp : ∀ H : Hp, Only H → SqL K H a (ns.map V.int) → sp [.ref a] H (fun v _ => v = .bl true) E0) :
    codeAny (model P w) callerA (.call (.ref f) ⟨[.ref a], []⟩) (fun r s2 => r = .ok (.ret (.bool true)) ∧ OldK s.heap s2.heap ∧ s2.os = s.os ∧ AllBare s2.gens) s := by
  have rv : Vals (ns.map V.int) its := vals_ints hi
  cases hk : K.lookup a with
  | some w0 =>
    have e := hK a w0 hk
    rw [ha] at e
    cases e
    have hO : Only fun _ => none := fun _ => .inl rfl
    refine top_run (H := fun _ => none) hK hG hB hBB hL hg ha hr F bnd hO (hsp _ hO (.inr ⟨_, its.toArray, _, hk, rfl, rfl, rfl, ?_, ?_⟩)) (fun _ _ z => nomatch z) (fun _ z => absurd rfl z) fun z => absurd rfl z
    · rw [List.size_toArray, ← rv.length, List.length_map]
      exact len
    · rw [List.toList_toArray]
      exact rv
  | none =>
    obtain ⟨u, hu⟩ : ∃ u : HO, u = .frz { cls := .type "list", data := .seq its.toArray } (.lst (ns.map V.int)) := ⟨_, rfl⟩
    have off : ∀ {b : Addr}, b ≠ a → upd (fun _ => none) a u b = none := fun n => upd_ne n
    have hO : Only (upd (fun _ => none) a u) := fun b => by
      by_cases z : b = a
      · rw [z, upd_same, hu]
        exact .inr ⟨_, _, rfl⟩
      · exact .inl (off z)
    refine top_run (H := upd (fun _ => none) a u) hK hG hB hBB hL hg ha hr F bnd hO (hsp _ hO (.inl (.inr ⟨_, by rw [upd_same, hu]⟩))) (fun b v e => ?_) (fun b z => Classical.byContradiction fun n => z (off n)) fun _ => hk
    by_cases z : b = a
    · subst z
      rw [upd_same, hu] at e
      cases e
      exact ⟨ha, by rw [List.length_map]; exact len, its, _, rv, ha⟩
    · rw [off z] at e
      cases e
open PySem.W in
theorem walk_top {l : OpenLaw} {n k : Nat} {q : Program} {loose : List Str} {XP : (Str → Option Value) → Heap → Prop} {YP : World → Heap → Prop} {d : DefRec} {K : Params → Frag} {sp : World → Sp} {x : Str}
    (hn : l.most = some n) (hz : n ≤ sizeLine) (hd : d.params.defaults = []) (hr : Room k callerA) (hY : ∀ (w : World) (h : Heap), YP w h → (K w.params).In h)
    (F : ∀ (w : World) (mg : Str → Option Value) (fa : Addr) (h : Heap), (K w.params).In h → h.Ns mainGlobals mg → mg d.name = some (.ref fa) →
      ∃ fd : FuncData, (∀ (s : Shared) (u : Value), BindsTo s fd ⟨[u], []⟩ [(x, u)]) ∧ ∀ base : Heap, (K w.params).In base → base.Ns mainGlobals mg → GOk l.prog w (K w.params) mg base k fa fd [x] (sp w))
    (hsp : ∀ (w : World) (H : Hp) (a : Addr) (ns : List Int), ns.length ≤ n → (∀ z ∈ ns, Builtin.Int.intBits z ≤ 1048576) → Only H → SqL (K w.params) H a (ns.map V.int) → sp w [.ref a] H (fun v _ => v = .bl true) E0) :
    WalkO q loose XP YP l.row.toRowW d [] (fun f vs => PySem.call f vs) := by
  refine Att.attach_callB hn hd fun w s0 s mg mb fa o pm cd doc a vs ns G Y ho hdat hcd hmg hobj hints hlen hbits hg => ?_
  obtain ⟨fd, bnd, hF⟩ := F w mg fa _ (hY w _ Y) G.T.g hmg
  exact top_call (hY w _ Y) G.T.g G.T.b G.T.builtins G.T.nolimit hg hobj hints (Nat.le_trans hlen hz) hr hF bnd fun H hO hS => hsp w H a ns hlen hbits hO hS

def topS (i : Nat) : Stmt := PySem.Challenge.pw_whatpasses_k11_errors_made.main.body.getD i (.Pass ⟨0, 0, 0, 0⟩)
abbrev s_law_bag : Stmt := topS 17
theorem sc_law_bag : FnScope ["script", "at", "cell"] ["script", "at"] (defScope s_law_bag) := ⟨rfl, rfl, rfl, by decide +kernel, rfl, by decide +kernel, by decide +kernel⟩
abbrev s_law_take : Stmt := topS 18
theorem sc_law_take : FnScope ["bag", "many", "digit", "mixed"] ["bag", "many"] (defScope s_law_take) := ⟨rfl, rfl, rfl, by decide +kernel, rfl, by decide +kernel, by decide +kernel⟩
abbrev s_law_of : Stmt := topS 19
theorem sc_law_of : FnScope ["bag", "some"] ["bag", "some"] (defScope s_law_of) := ⟨rfl, rfl, rfl, by decide +kernel, rfl, by decide +kernel, by decide +kernel⟩
abbrev s_law_word : Stmt := topS 20
theorem sc_law_word : FnScope ["bag", "most", "turn"] ["bag", "most"] (defScope s_law_word) := ⟨rfl, rfl, rfl, by decide +kernel, rfl, by decide +kernel, by decide +kernel⟩
abbrev s_law_class : Stmt := topS 21
theorem sc_law_class : FnScope ["bag", "letters", "found", "turn"] ["bag"] (defScope s_law_class) := ⟨rfl, rfl, rfl, by decide +kernel, rfl, by decide +kernel, by decide +kernel⟩
abbrev s_law_any : Stmt := topS 22
theorem sc_law_any : FnScope ["bag", "deep", "way", "some", "turn"] ["bag", "deep"] (defScope s_law_any) := ⟨rfl, rfl, rfl, by decide +kernel, rfl, by decide +kernel, by decide +kernel⟩
abbrev s_law_classes : Stmt := topS 23
theorem sc_law_classes : FnScope ["e", "found"] ["e"] (defScope s_law_classes) := ⟨rfl, rfl, rfl, by decide +kernel, rfl, by decide +kernel, by decide +kernel⟩
abbrev s_law_bases : Stmt := topS 24
theorem sc_law_bases : FnScope ["e", "found"] ["e"] (defScope s_law_bases) := ⟨rfl, rfl, rfl, by decide +kernel, rfl, by decide +kernel, by decide +kernel⟩
abbrev s_law : Stmt := topS 25
theorem sc_law : FnScope ["script", "at", "bag", "thing", "cause", "made", "k", "classes", "bases", "other"] ["script"] (defScope s_law) := ⟨rfl, rfl, rfl, by decide +kernel, rfl, by decide +kernel, by decide +kernel⟩
def clsPart (j : Nat) : Stmt → Stmt
  | .ClassDef (body := b) .. => b.getD j (.Pass ⟨0, 0, 0, 0⟩)
  | _ => .Pass ⟨0, 0, 0, 0⟩
abbrev si_BadFamily : Stmt := clsPart 0 (topS 2)
theorem sci_BadFamily : FnScope ["self", "at"] ["self", "at"] (defScope si_BadFamily) := ⟨rfl, rfl, rfl, by decide +kernel, rfl, by decide +kernel, by decide +kernel⟩
abbrev si_BadCall : Stmt := clsPart 0 (topS 3)
theorem sci_BadCall : FnScope ["self", "at"] ["self", "at"] (defScope si_BadCall) := ⟨rfl, rfl, rfl, by decide +kernel, rfl, by decide +kernel, by decide +kernel⟩
abbrev si_BadTest : Stmt := clsPart 0 (topS 4)
theorem sci_BadTest : FnScope ["self", "at"] ["self", "at"] (defScope si_BadTest) := ⟨rfl, rfl, rfl, by decide +kernel, rfl, by decide +kernel, by decide +kernel⟩
abbrev si_BadPart : Stmt := clsPart 0 (topS 5)
theorem sci_BadPart : FnScope ["self", "at"] ["self", "at"] (defScope si_BadPart) := ⟨rfl, rfl, rfl, by decide +kernel, rfl, by decide +kernel, by decide +kernel⟩
abbrev si_BadSuite : Stmt := clsPart 0 (topS 6)
theorem sci_BadSuite : FnScope ["self", "at"] ["self", "at"] (defScope si_BadSuite) := ⟨rfl, rfl, rfl, by decide +kernel, rfl, by decide +kernel, by decide +kernel⟩
abbrev si_OtherFamily : Stmt := clsPart 0 (topS 7)
theorem sci_OtherFamily : FnScope ["self", "at"] ["self", "at"] (defScope si_OtherFamily) := ⟨rfl, rfl, rfl, by decide +kernel, rfl, by decide +kernel, by decide +kernel⟩
abbrev si_BadDemand : Stmt := clsPart 0 (topS 8)
theorem sci_BadDemand : FnScope ["self", "at"] ["self", "at"] (defScope si_BadDemand) := ⟨rfl, rfl, rfl, by decide +kernel, rfl, by decide +kernel, by decide +kernel⟩
abbrev si_BadDeed : Stmt := clsPart 0 (topS 9)
theorem sci_BadDeed : FnScope ["self", "at"] ["self", "at"] (defScope si_BadDeed) := ⟨rfl, rfl, rfl, by decide +kernel, rfl, by decide +kernel, by decide +kernel⟩
abbrev si_NoClass : Stmt := clsPart 0 (topS 10)
theorem sci_NoClass : FnScope ["self", "name"] ["self", "name"] (defScope si_NoClass) := ⟨rfl, rfl, rfl, by decide +kernel, rfl, by decide +kernel, by decide +kernel⟩
abbrev si_NoCall : Stmt := clsPart 0 (topS 11)
theorem sci_NoCall : FnScope ["self", "text"] ["self", "text"] (defScope si_NoCall) := ⟨rfl, rfl, rfl, by decide +kernel, rfl, by decide +kernel, by decide +kernel⟩
abbrev si_NoTest : Stmt := clsPart 0 (topS 12)
theorem sci_NoTest : FnScope ["self", "name"] ["self", "name"] (defScope si_NoTest) := ⟨rfl, rfl, rfl, by decide +kernel, rfl, by decide +kernel, by decide +kernel⟩
abbrev si_NoCheck : Stmt := clsPart 0 (topS 13)
theorem sci_NoCheck : FnScope ["self", "line"] ["self", "line"] (defScope si_NoCheck) := ⟨rfl, rfl, rfl, by decide +kernel, rfl, by decide +kernel, by decide +kernel⟩
abbrev si_Raised : Stmt := clsPart 0 (topS 15)
theorem sci_Raised : FnScope ["self", "kind", "cause"] ["self", "kind", "cause"] (defScope si_Raised) := ⟨rfl, rfl, rfl, by decide +kernel, rfl, by decide +kernel, by decide +kernel⟩
/-- an own error class with an __init__ -/
structure ErrV (K : PySem.W.Frag) (mg : Str → Option Value) (x : Str) (C fI : Addr) : Prop where
  g : mg x = some (.ref C)
  o : OexG K C
  i : PySem.W.findIn K (.ref C) "__init__" = some (some (.ref fI))
  t : PySem.W.typeIn K (.ref fI) = some (.type "function")
/-- what the top leaves: where the defs stand, which names are built-in -/
structure Txt (K : PySem.W.Frag) (mg : Str → Option Value) where
  f_law_bag : Addr
  fd_law_bag : FuncData
  F_law_bag : Fun K "_law_bag" "_law_bag" s_law_bag f_law_bag fd_law_bag
  b_law_bag : Binds K fd_law_bag ["script", "at"] []
  g_law_bag : mg "_law_bag" = some (.ref f_law_bag)
  f_law_take : Addr
  fd_law_take : FuncData
  F_law_take : Fun K "_law_take" "_law_take" s_law_take f_law_take fd_law_take
  b_law_take : Binds K fd_law_take ["bag", "many"] []
  g_law_take : mg "_law_take" = some (.ref f_law_take)
  f_law_of : Addr
  fd_law_of : FuncData
  F_law_of : Fun K "_law_of" "_law_of" s_law_of f_law_of fd_law_of
  b_law_of : Binds K fd_law_of ["bag", "some"] []
  g_law_of : mg "_law_of" = some (.ref f_law_of)
  f_law_word : Addr
  fd_law_word : FuncData
  F_law_word : Fun K "_law_word" "_law_word" s_law_word f_law_word fd_law_word
  b_law_word : Binds K fd_law_word ["bag", "most"] []
  g_law_word : mg "_law_word" = some (.ref f_law_word)
  f_law_class : Addr
  fd_law_class : FuncData
  F_law_class : Fun K "_law_class" "_law_class" s_law_class f_law_class fd_law_class
  b_law_class : Binds K fd_law_class ["bag"] []
  g_law_class : mg "_law_class" = some (.ref f_law_class)
  f_law_any : Addr
  fd_law_any : FuncData
  F_law_any : Fun K "_law_any" "_law_any" s_law_any f_law_any fd_law_any
  b_law_any : Binds K fd_law_any ["bag", "deep"] []
  g_law_any : mg "_law_any" = some (.ref f_law_any)
  f_law_classes : Addr
  fd_law_classes : FuncData
  F_law_classes : Fun K "_law_classes" "_law_classes" s_law_classes f_law_classes fd_law_classes
  b_law_classes : Binds K fd_law_classes ["e"] []
  g_law_classes : mg "_law_classes" = some (.ref f_law_classes)
  f_law_bases : Addr
  fd_law_bases : FuncData
  F_law_bases : Fun K "_law_bases" "_law_bases" s_law_bases f_law_bases fd_law_bases
  b_law_bases : Binds K fd_law_bases ["e"] []
  g_law_bases : mg "_law_bases" = some (.ref f_law_bases)
  w_WhatpassesError : Addr
  gw_WhatpassesError : mg "WhatpassesError" = some (.ref w_WhatpassesError)
  cC_BadFamily : Addr
  cI_BadFamily : Addr
  cfd_BadFamily : FuncData
  cF_BadFamily : Fun K "__init__" "BadFamily.__init__" si_BadFamily cI_BadFamily cfd_BadFamily
  cb_BadFamily : Binds K cfd_BadFamily ["self", "at"] []
  cV_BadFamily : ErrV K mg "BadFamily" cC_BadFamily cI_BadFamily
  cn_BadFamily_at : PySem.W.findIn K (.ref cC_BadFamily) "at" = some none
  ck_BadFamily : ExcC K cC_BadFamily
  cx_BadFamily : XfC K cC_BadFamily
  cC_BadCall : Addr
  cI_BadCall : Addr
  cfd_BadCall : FuncData
  cF_BadCall : Fun K "__init__" "BadCall.__init__" si_BadCall cI_BadCall cfd_BadCall
  cb_BadCall : Binds K cfd_BadCall ["self", "at"] []
  cV_BadCall : ErrV K mg "BadCall" cC_BadCall cI_BadCall
  cn_BadCall_at : PySem.W.findIn K (.ref cC_BadCall) "at" = some none
  ck_BadCall : ExcC K cC_BadCall
  cx_BadCall : XfC K cC_BadCall
  cC_BadTest : Addr
  cI_BadTest : Addr
  cfd_BadTest : FuncData
  cF_BadTest : Fun K "__init__" "BadTest.__init__" si_BadTest cI_BadTest cfd_BadTest
  cb_BadTest : Binds K cfd_BadTest ["self", "at"] []
  cV_BadTest : ErrV K mg "BadTest" cC_BadTest cI_BadTest
  cn_BadTest_at : PySem.W.findIn K (.ref cC_BadTest) "at" = some none
  ck_BadTest : ExcC K cC_BadTest
  cx_BadTest : XfC K cC_BadTest
  cC_BadPart : Addr
  cI_BadPart : Addr
  cfd_BadPart : FuncData
  cF_BadPart : Fun K "__init__" "BadPart.__init__" si_BadPart cI_BadPart cfd_BadPart
  cb_BadPart : Binds K cfd_BadPart ["self", "at"] []
  cV_BadPart : ErrV K mg "BadPart" cC_BadPart cI_BadPart
  cn_BadPart_at : PySem.W.findIn K (.ref cC_BadPart) "at" = some none
  ck_BadPart : ExcC K cC_BadPart
  cx_BadPart : XfC K cC_BadPart
  cC_BadSuite : Addr
  cI_BadSuite : Addr
  cfd_BadSuite : FuncData
  cF_BadSuite : Fun K "__init__" "BadSuite.__init__" si_BadSuite cI_BadSuite cfd_BadSuite
  cb_BadSuite : Binds K cfd_BadSuite ["self", "at"] []
  cV_BadSuite : ErrV K mg "BadSuite" cC_BadSuite cI_BadSuite
  cn_BadSuite_at : PySem.W.findIn K (.ref cC_BadSuite) "at" = some none
  ck_BadSuite : ExcC K cC_BadSuite
  cx_BadSuite : XfC K cC_BadSuite
  cC_OtherFamily : Addr
  cI_OtherFamily : Addr
  cfd_OtherFamily : FuncData
  cF_OtherFamily : Fun K "__init__" "OtherFamily.__init__" si_OtherFamily cI_OtherFamily cfd_OtherFamily
  cb_OtherFamily : Binds K cfd_OtherFamily ["self", "at"] []
  cV_OtherFamily : ErrV K mg "OtherFamily" cC_OtherFamily cI_OtherFamily
  cn_OtherFamily_at : PySem.W.findIn K (.ref cC_OtherFamily) "at" = some none
  ck_OtherFamily : ExcC K cC_OtherFamily
  cx_OtherFamily : XfC K cC_OtherFamily
  cC_BadDemand : Addr
  cI_BadDemand : Addr
  cfd_BadDemand : FuncData
  cF_BadDemand : Fun K "__init__" "BadDemand.__init__" si_BadDemand cI_BadDemand cfd_BadDemand
  cb_BadDemand : Binds K cfd_BadDemand ["self", "at"] []
  cV_BadDemand : ErrV K mg "BadDemand" cC_BadDemand cI_BadDemand
  cn_BadDemand_at : PySem.W.findIn K (.ref cC_BadDemand) "at" = some none
  ck_BadDemand : ExcC K cC_BadDemand
  cx_BadDemand : XfC K cC_BadDemand
  cC_BadDeed : Addr
  cI_BadDeed : Addr
  cfd_BadDeed : FuncData
  cF_BadDeed : Fun K "__init__" "BadDeed.__init__" si_BadDeed cI_BadDeed cfd_BadDeed
  cb_BadDeed : Binds K cfd_BadDeed ["self", "at"] []
  cV_BadDeed : ErrV K mg "BadDeed" cC_BadDeed cI_BadDeed
  cn_BadDeed_at : PySem.W.findIn K (.ref cC_BadDeed) "at" = some none
  ck_BadDeed : ExcC K cC_BadDeed
  cx_BadDeed : XfC K cC_BadDeed
  cC_NoClass : Addr
  cI_NoClass : Addr
  cfd_NoClass : FuncData
  cF_NoClass : Fun K "__init__" "NoClass.__init__" si_NoClass cI_NoClass cfd_NoClass
  cb_NoClass : Binds K cfd_NoClass ["self", "name"] []
  cV_NoClass : ErrV K mg "NoClass" cC_NoClass cI_NoClass
  cn_NoClass_name : PySem.W.findIn K (.ref cC_NoClass) "name" = some none
  ck_NoClass : ExcC K cC_NoClass
  cx_NoClass : XfC K cC_NoClass
  cC_NoCall : Addr
  cI_NoCall : Addr
  cfd_NoCall : FuncData
  cF_NoCall : Fun K "__init__" "NoCall.__init__" si_NoCall cI_NoCall cfd_NoCall
  cb_NoCall : Binds K cfd_NoCall ["self", "text"] []
  cV_NoCall : ErrV K mg "NoCall" cC_NoCall cI_NoCall
  cn_NoCall_text : PySem.W.findIn K (.ref cC_NoCall) "text" = some none
  ck_NoCall : ExcC K cC_NoCall
  cx_NoCall : XfC K cC_NoCall
  cC_NoTest : Addr
  cI_NoTest : Addr
  cfd_NoTest : FuncData
  cF_NoTest : Fun K "__init__" "NoTest.__init__" si_NoTest cI_NoTest cfd_NoTest
  cb_NoTest : Binds K cfd_NoTest ["self", "name"] []
  cV_NoTest : ErrV K mg "NoTest" cC_NoTest cI_NoTest
  cn_NoTest_name : PySem.W.findIn K (.ref cC_NoTest) "name" = some none
  ck_NoTest : ExcC K cC_NoTest
  cx_NoTest : XfC K cC_NoTest
  cC_NoCheck : Addr
  cI_NoCheck : Addr
  cfd_NoCheck : FuncData
  cF_NoCheck : Fun K "__init__" "NoCheck.__init__" si_NoCheck cI_NoCheck cfd_NoCheck
  cb_NoCheck : Binds K cfd_NoCheck ["self", "line"] []
  cV_NoCheck : ErrV K mg "NoCheck" cC_NoCheck cI_NoCheck
  cn_NoCheck_line : PySem.W.findIn K (.ref cC_NoCheck) "line" = some none
  ck_NoCheck : ExcC K cC_NoCheck
  cx_NoCheck : XfC K cC_NoCheck
  cC_NothingToUndo : Addr
  cG_NothingToUndo : mg "NothingToUndo" = some (.ref cC_NothingToUndo)
  cN_NothingToUndo : PySem.W.keepIn K (.ref cC_NothingToUndo) = true
  cX_NothingToUndo : PySem.W.excIn K cC_NothingToUndo [.type "LookupError", .type "Exception", .type "BaseException", .type "object"] "LookupError.__new__" = true
  ck_NothingToUndo : ExcC K cC_NothingToUndo
  cx_NothingToUndo : XfC K cC_NothingToUndo
  cC_Raised : Addr
  cI_Raised : Addr
  cfd_Raised : FuncData
  cF_Raised : Fun K "__init__" "Raised.__init__" si_Raised cI_Raised cfd_Raised
  cb_Raised : Binds K cfd_Raised ["self", "kind", "cause"] []
  cV_Raised : ErrV K mg "Raised" cC_Raised cI_Raised
  cn_Raised_kind : PySem.W.findIn K (.ref cC_Raised) "kind" = some none
  cn_Raised_cause : PySem.W.findIn K (.ref cC_Raised) "cause" = some none
  ck_Raised : ExcC K cC_Raised
  cx_Raised : XfC K cC_Raised
  ks_BadFamily_BadFamily : PySem.W.kitOne K (.ref cC_BadFamily) (.ref cC_BadFamily) = some true
  ks_BadFamily_BadCall : PySem.W.kitOne K (.ref cC_BadFamily) (.ref cC_BadCall) = some false
  ks_BadFamily_BadTest : PySem.W.kitOne K (.ref cC_BadFamily) (.ref cC_BadTest) = some false
  ks_BadFamily_BadPart : PySem.W.kitOne K (.ref cC_BadFamily) (.ref cC_BadPart) = some false
  ks_BadFamily_BadSuite : PySem.W.kitOne K (.ref cC_BadFamily) (.ref cC_BadSuite) = some false
  ks_BadFamily_OtherFamily : PySem.W.kitOne K (.ref cC_BadFamily) (.ref cC_OtherFamily) = some false
  ks_BadFamily_BadDemand : PySem.W.kitOne K (.ref cC_BadFamily) (.ref cC_BadDemand) = some false
  ks_BadFamily_BadDeed : PySem.W.kitOne K (.ref cC_BadFamily) (.ref cC_BadDeed) = some false
  ks_BadFamily_NoClass : PySem.W.kitOne K (.ref cC_BadFamily) (.ref cC_NoClass) = some false
  ks_BadFamily_NoCall : PySem.W.kitOne K (.ref cC_BadFamily) (.ref cC_NoCall) = some false
  ks_BadFamily_NoTest : PySem.W.kitOne K (.ref cC_BadFamily) (.ref cC_NoTest) = some false
  ks_BadFamily_NoCheck : PySem.W.kitOne K (.ref cC_BadFamily) (.ref cC_NoCheck) = some false
  ks_BadFamily_NothingToUndo : PySem.W.kitOne K (.ref cC_BadFamily) (.ref cC_NothingToUndo) = some false
  ks_BadFamily_Raised : PySem.W.kitOne K (.ref cC_BadFamily) (.ref cC_Raised) = some false
  ks_BadFamily_WhatpassesError : PySem.W.kitOne K (.ref cC_BadFamily) (.ref w_WhatpassesError) = some true
  ks_BadFamily_ValueError : PySem.W.kitOne K (.ref cC_BadFamily) (.type "ValueError") = some true
  ks_BadFamily_LookupError : PySem.W.kitOne K (.ref cC_BadFamily) (.type "LookupError") = some false
  ks_BadFamily_RuntimeError : PySem.W.kitOne K (.ref cC_BadFamily) (.type "RuntimeError") = some false
  ks_BadFamily_KeyError : PySem.W.kitOne K (.ref cC_BadFamily) (.type "KeyError") = some false
  ks_BadFamily_IndexError : PySem.W.kitOne K (.ref cC_BadFamily) (.type "IndexError") = some false
  ks_BadFamily_NotImplementedError : PySem.W.kitOne K (.ref cC_BadFamily) (.type "NotImplementedError") = some false
  ks_BadCall_BadFamily : PySem.W.kitOne K (.ref cC_BadCall) (.ref cC_BadFamily) = some false
  ks_BadCall_BadCall : PySem.W.kitOne K (.ref cC_BadCall) (.ref cC_BadCall) = some true
  ks_BadCall_BadTest : PySem.W.kitOne K (.ref cC_BadCall) (.ref cC_BadTest) = some false
  ks_BadCall_BadPart : PySem.W.kitOne K (.ref cC_BadCall) (.ref cC_BadPart) = some false
  ks_BadCall_BadSuite : PySem.W.kitOne K (.ref cC_BadCall) (.ref cC_BadSuite) = some false
  ks_BadCall_OtherFamily : PySem.W.kitOne K (.ref cC_BadCall) (.ref cC_OtherFamily) = some false
  ks_BadCall_BadDemand : PySem.W.kitOne K (.ref cC_BadCall) (.ref cC_BadDemand) = some false
  ks_BadCall_BadDeed : PySem.W.kitOne K (.ref cC_BadCall) (.ref cC_BadDeed) = some false
  ks_BadCall_NoClass : PySem.W.kitOne K (.ref cC_BadCall) (.ref cC_NoClass) = some false
  ks_BadCall_NoCall : PySem.W.kitOne K (.ref cC_BadCall) (.ref cC_NoCall) = some false
  ks_BadCall_NoTest : PySem.W.kitOne K (.ref cC_BadCall) (.ref cC_NoTest) = some false
  ks_BadCall_NoCheck : PySem.W.kitOne K (.ref cC_BadCall) (.ref cC_NoCheck) = some false
  ks_BadCall_NothingToUndo : PySem.W.kitOne K (.ref cC_BadCall) (.ref cC_NothingToUndo) = some false
  ks_BadCall_Raised : PySem.W.kitOne K (.ref cC_BadCall) (.ref cC_Raised) = some false
  ks_BadCall_WhatpassesError : PySem.W.kitOne K (.ref cC_BadCall) (.ref w_WhatpassesError) = some true
  ks_BadCall_ValueError : PySem.W.kitOne K (.ref cC_BadCall) (.type "ValueError") = some true
  ks_BadCall_LookupError : PySem.W.kitOne K (.ref cC_BadCall) (.type "LookupError") = some false
  ks_BadCall_RuntimeError : PySem.W.kitOne K (.ref cC_BadCall) (.type "RuntimeError") = some false
  ks_BadCall_KeyError : PySem.W.kitOne K (.ref cC_BadCall) (.type "KeyError") = some false
  ks_BadCall_IndexError : PySem.W.kitOne K (.ref cC_BadCall) (.type "IndexError") = some false
  ks_BadCall_NotImplementedError : PySem.W.kitOne K (.ref cC_BadCall) (.type "NotImplementedError") = some false
  ks_BadTest_BadFamily : PySem.W.kitOne K (.ref cC_BadTest) (.ref cC_BadFamily) = some false
  ks_BadTest_BadCall : PySem.W.kitOne K (.ref cC_BadTest) (.ref cC_BadCall) = some false
  ks_BadTest_BadTest : PySem.W.kitOne K (.ref cC_BadTest) (.ref cC_BadTest) = some true
  ks_BadTest_BadPart : PySem.W.kitOne K (.ref cC_BadTest) (.ref cC_BadPart) = some false
  ks_BadTest_BadSuite : PySem.W.kitOne K (.ref cC_BadTest) (.ref cC_BadSuite) = some false
  ks_BadTest_OtherFamily : PySem.W.kitOne K (.ref cC_BadTest) (.ref cC_OtherFamily) = some false
  ks_BadTest_BadDemand : PySem.W.kitOne K (.ref cC_BadTest) (.ref cC_BadDemand) = some false
  ks_BadTest_BadDeed : PySem.W.kitOne K (.ref cC_BadTest) (.ref cC_BadDeed) = some false
  ks_BadTest_NoClass : PySem.W.kitOne K (.ref cC_BadTest) (.ref cC_NoClass) = some false
  ks_BadTest_NoCall : PySem.W.kitOne K (.ref cC_BadTest) (.ref cC_NoCall) = some false
  ks_BadTest_NoTest : PySem.W.kitOne K (.ref cC_BadTest) (.ref cC_NoTest) = some false
  ks_BadTest_NoCheck : PySem.W.kitOne K (.ref cC_BadTest) (.ref cC_NoCheck) = some false
  ks_BadTest_NothingToUndo : PySem.W.kitOne K (.ref cC_BadTest) (.ref cC_NothingToUndo) = some false
  ks_BadTest_Raised : PySem.W.kitOne K (.ref cC_BadTest) (.ref cC_Raised) = some false
  ks_BadTest_WhatpassesError : PySem.W.kitOne K (.ref cC_BadTest) (.ref w_WhatpassesError) = some true
  ks_BadTest_ValueError : PySem.W.kitOne K (.ref cC_BadTest) (.type "ValueError") = some true
  ks_BadTest_LookupError : PySem.W.kitOne K (.ref cC_BadTest) (.type "LookupError") = some false
  ks_BadTest_RuntimeError : PySem.W.kitOne K (.ref cC_BadTest) (.type "RuntimeError") = some false
  ks_BadTest_KeyError : PySem.W.kitOne K (.ref cC_BadTest) (.type "KeyError") = some false
  ks_BadTest_IndexError : PySem.W.kitOne K (.ref cC_BadTest) (.type "IndexError") = some false
  ks_BadTest_NotImplementedError : PySem.W.kitOne K (.ref cC_BadTest) (.type "NotImplementedError") = some false
  ks_BadPart_BadFamily : PySem.W.kitOne K (.ref cC_BadPart) (.ref cC_BadFamily) = some false
  ks_BadPart_BadCall : PySem.W.kitOne K (.ref cC_BadPart) (.ref cC_BadCall) = some false
  ks_BadPart_BadTest : PySem.W.kitOne K (.ref cC_BadPart) (.ref cC_BadTest) = some false
  ks_BadPart_BadPart : PySem.W.kitOne K (.ref cC_BadPart) (.ref cC_BadPart) = some true
  ks_BadPart_BadSuite : PySem.W.kitOne K (.ref cC_BadPart) (.ref cC_BadSuite) = some false
  ks_BadPart_OtherFamily : PySem.W.kitOne K (.ref cC_BadPart) (.ref cC_OtherFamily) = some false
  ks_BadPart_BadDemand : PySem.W.kitOne K (.ref cC_BadPart) (.ref cC_BadDemand) = some false
  ks_BadPart_BadDeed : PySem.W.kitOne K (.ref cC_BadPart) (.ref cC_BadDeed) = some false
  ks_BadPart_NoClass : PySem.W.kitOne K (.ref cC_BadPart) (.ref cC_NoClass) = some false
  ks_BadPart_NoCall : PySem.W.kitOne K (.ref cC_BadPart) (.ref cC_NoCall) = some false
  ks_BadPart_NoTest : PySem.W.kitOne K (.ref cC_BadPart) (.ref cC_NoTest) = some false
  ks_BadPart_NoCheck : PySem.W.kitOne K (.ref cC_BadPart) (.ref cC_NoCheck) = some false
  ks_BadPart_NothingToUndo : PySem.W.kitOne K (.ref cC_BadPart) (.ref cC_NothingToUndo) = some false
  ks_BadPart_Raised : PySem.W.kitOne K (.ref cC_BadPart) (.ref cC_Raised) = some false
  ks_BadPart_WhatpassesError : PySem.W.kitOne K (.ref cC_BadPart) (.ref w_WhatpassesError) = some true
  ks_BadPart_ValueError : PySem.W.kitOne K (.ref cC_BadPart) (.type "ValueError") = some true
  ks_BadPart_LookupError : PySem.W.kitOne K (.ref cC_BadPart) (.type "LookupError") = some false
  ks_BadPart_RuntimeError : PySem.W.kitOne K (.ref cC_BadPart) (.type "RuntimeError") = some false
  ks_BadPart_KeyError : PySem.W.kitOne K (.ref cC_BadPart) (.type "KeyError") = some false
  ks_BadPart_IndexError : PySem.W.kitOne K (.ref cC_BadPart) (.type "IndexError") = some false
  ks_BadPart_NotImplementedError : PySem.W.kitOne K (.ref cC_BadPart) (.type "NotImplementedError") = some false
  ks_BadSuite_BadFamily : PySem.W.kitOne K (.ref cC_BadSuite) (.ref cC_BadFamily) = some false
  ks_BadSuite_BadCall : PySem.W.kitOne K (.ref cC_BadSuite) (.ref cC_BadCall) = some false
  ks_BadSuite_BadTest : PySem.W.kitOne K (.ref cC_BadSuite) (.ref cC_BadTest) = some false
  ks_BadSuite_BadPart : PySem.W.kitOne K (.ref cC_BadSuite) (.ref cC_BadPart) = some false
  ks_BadSuite_BadSuite : PySem.W.kitOne K (.ref cC_BadSuite) (.ref cC_BadSuite) = some true
  ks_BadSuite_OtherFamily : PySem.W.kitOne K (.ref cC_BadSuite) (.ref cC_OtherFamily) = some false
  ks_BadSuite_BadDemand : PySem.W.kitOne K (.ref cC_BadSuite) (.ref cC_BadDemand) = some false
  ks_BadSuite_BadDeed : PySem.W.kitOne K (.ref cC_BadSuite) (.ref cC_BadDeed) = some false
  ks_BadSuite_NoClass : PySem.W.kitOne K (.ref cC_BadSuite) (.ref cC_NoClass) = some false
  ks_BadSuite_NoCall : PySem.W.kitOne K (.ref cC_BadSuite) (.ref cC_NoCall) = some false
  ks_BadSuite_NoTest : PySem.W.kitOne K (.ref cC_BadSuite) (.ref cC_NoTest) = some false
  ks_BadSuite_NoCheck : PySem.W.kitOne K (.ref cC_BadSuite) (.ref cC_NoCheck) = some false
  ks_BadSuite_NothingToUndo : PySem.W.kitOne K (.ref cC_BadSuite) (.ref cC_NothingToUndo) = some false
  ks_BadSuite_Raised : PySem.W.kitOne K (.ref cC_BadSuite) (.ref cC_Raised) = some false
  ks_BadSuite_WhatpassesError : PySem.W.kitOne K (.ref cC_BadSuite) (.ref w_WhatpassesError) = some true
  ks_BadSuite_ValueError : PySem.W.kitOne K (.ref cC_BadSuite) (.type "ValueError") = some true
  ks_BadSuite_LookupError : PySem.W.kitOne K (.ref cC_BadSuite) (.type "LookupError") = some false
  ks_BadSuite_RuntimeError : PySem.W.kitOne K (.ref cC_BadSuite) (.type "RuntimeError") = some false
  ks_BadSuite_KeyError : PySem.W.kitOne K (.ref cC_BadSuite) (.type "KeyError") = some false
  ks_BadSuite_IndexError : PySem.W.kitOne K (.ref cC_BadSuite) (.type "IndexError") = some false
  ks_BadSuite_NotImplementedError : PySem.W.kitOne K (.ref cC_BadSuite) (.type "NotImplementedError") = some false
  ks_OtherFamily_BadFamily : PySem.W.kitOne K (.ref cC_OtherFamily) (.ref cC_BadFamily) = some false
  ks_OtherFamily_BadCall : PySem.W.kitOne K (.ref cC_OtherFamily) (.ref cC_BadCall) = some false
  ks_OtherFamily_BadTest : PySem.W.kitOne K (.ref cC_OtherFamily) (.ref cC_BadTest) = some false
  ks_OtherFamily_BadPart : PySem.W.kitOne K (.ref cC_OtherFamily) (.ref cC_BadPart) = some false
  ks_OtherFamily_BadSuite : PySem.W.kitOne K (.ref cC_OtherFamily) (.ref cC_BadSuite) = some false
  ks_OtherFamily_OtherFamily : PySem.W.kitOne K (.ref cC_OtherFamily) (.ref cC_OtherFamily) = some true
  ks_OtherFamily_BadDemand : PySem.W.kitOne K (.ref cC_OtherFamily) (.ref cC_BadDemand) = some false
  ks_OtherFamily_BadDeed : PySem.W.kitOne K (.ref cC_OtherFamily) (.ref cC_BadDeed) = some false
  ks_OtherFamily_NoClass : PySem.W.kitOne K (.ref cC_OtherFamily) (.ref cC_NoClass) = some false
  ks_OtherFamily_NoCall : PySem.W.kitOne K (.ref cC_OtherFamily) (.ref cC_NoCall) = some false
  ks_OtherFamily_NoTest : PySem.W.kitOne K (.ref cC_OtherFamily) (.ref cC_NoTest) = some false
  ks_OtherFamily_NoCheck : PySem.W.kitOne K (.ref cC_OtherFamily) (.ref cC_NoCheck) = some false
  ks_OtherFamily_NothingToUndo : PySem.W.kitOne K (.ref cC_OtherFamily) (.ref cC_NothingToUndo) = some false
  ks_OtherFamily_Raised : PySem.W.kitOne K (.ref cC_OtherFamily) (.ref cC_Raised) = some false
  ks_OtherFamily_WhatpassesError : PySem.W.kitOne K (.ref cC_OtherFamily) (.ref w_WhatpassesError) = some true
  ks_OtherFamily_ValueError : PySem.W.kitOne K (.ref cC_OtherFamily) (.type "ValueError") = some true
  ks_OtherFamily_LookupError : PySem.W.kitOne K (.ref cC_OtherFamily) (.type "LookupError") = some false
  ks_OtherFamily_RuntimeError : PySem.W.kitOne K (.ref cC_OtherFamily) (.type "RuntimeError") = some false
  ks_OtherFamily_KeyError : PySem.W.kitOne K (.ref cC_OtherFamily) (.type "KeyError") = some false
  ks_OtherFamily_IndexError : PySem.W.kitOne K (.ref cC_OtherFamily) (.type "IndexError") = some false
  ks_OtherFamily_NotImplementedError : PySem.W.kitOne K (.ref cC_OtherFamily) (.type "NotImplementedError") = some false
  ks_BadDemand_BadFamily : PySem.W.kitOne K (.ref cC_BadDemand) (.ref cC_BadFamily) = some false
  ks_BadDemand_BadCall : PySem.W.kitOne K (.ref cC_BadDemand) (.ref cC_BadCall) = some false
  ks_BadDemand_BadTest : PySem.W.kitOne K (.ref cC_BadDemand) (.ref cC_BadTest) = some false
  ks_BadDemand_BadPart : PySem.W.kitOne K (.ref cC_BadDemand) (.ref cC_BadPart) = some false
  ks_BadDemand_BadSuite : PySem.W.kitOne K (.ref cC_BadDemand) (.ref cC_BadSuite) = some false
  ks_BadDemand_OtherFamily : PySem.W.kitOne K (.ref cC_BadDemand) (.ref cC_OtherFamily) = some false
  ks_BadDemand_BadDemand : PySem.W.kitOne K (.ref cC_BadDemand) (.ref cC_BadDemand) = some true
  ks_BadDemand_BadDeed : PySem.W.kitOne K (.ref cC_BadDemand) (.ref cC_BadDeed) = some false
  ks_BadDemand_NoClass : PySem.W.kitOne K (.ref cC_BadDemand) (.ref cC_NoClass) = some false
  ks_BadDemand_NoCall : PySem.W.kitOne K (.ref cC_BadDemand) (.ref cC_NoCall) = some false
  ks_BadDemand_NoTest : PySem.W.kitOne K (.ref cC_BadDemand) (.ref cC_NoTest) = some false
  ks_BadDemand_NoCheck : PySem.W.kitOne K (.ref cC_BadDemand) (.ref cC_NoCheck) = some false
  ks_BadDemand_NothingToUndo : PySem.W.kitOne K (.ref cC_BadDemand) (.ref cC_NothingToUndo) = some false
  ks_BadDemand_Raised : PySem.W.kitOne K (.ref cC_BadDemand) (.ref cC_Raised) = some false
  ks_BadDemand_WhatpassesError : PySem.W.kitOne K (.ref cC_BadDemand) (.ref w_WhatpassesError) = some true
  ks_BadDemand_ValueError : PySem.W.kitOne K (.ref cC_BadDemand) (.type "ValueError") = some true
  ks_BadDemand_LookupError : PySem.W.kitOne K (.ref cC_BadDemand) (.type "LookupError") = some false
  ks_BadDemand_RuntimeError : PySem.W.kitOne K (.ref cC_BadDemand) (.type "RuntimeError") = some false
  ks_BadDemand_KeyError : PySem.W.kitOne K (.ref cC_BadDemand) (.type "KeyError") = some false
  ks_BadDemand_IndexError : PySem.W.kitOne K (.ref cC_BadDemand) (.type "IndexError") = some false
  ks_BadDemand_NotImplementedError : PySem.W.kitOne K (.ref cC_BadDemand) (.type "NotImplementedError") = some false
  ks_BadDeed_BadFamily : PySem.W.kitOne K (.ref cC_BadDeed) (.ref cC_BadFamily) = some false
  ks_BadDeed_BadCall : PySem.W.kitOne K (.ref cC_BadDeed) (.ref cC_BadCall) = some false
  ks_BadDeed_BadTest : PySem.W.kitOne K (.ref cC_BadDeed) (.ref cC_BadTest) = some false
  ks_BadDeed_BadPart : PySem.W.kitOne K (.ref cC_BadDeed) (.ref cC_BadPart) = some false
  ks_BadDeed_BadSuite : PySem.W.kitOne K (.ref cC_BadDeed) (.ref cC_BadSuite) = some false
  ks_BadDeed_OtherFamily : PySem.W.kitOne K (.ref cC_BadDeed) (.ref cC_OtherFamily) = some false
  ks_BadDeed_BadDemand : PySem.W.kitOne K (.ref cC_BadDeed) (.ref cC_BadDemand) = some false
  ks_BadDeed_BadDeed : PySem.W.kitOne K (.ref cC_BadDeed) (.ref cC_BadDeed) = some true
  ks_BadDeed_NoClass : PySem.W.kitOne K (.ref cC_BadDeed) (.ref cC_NoClass) = some false
  ks_BadDeed_NoCall : PySem.W.kitOne K (.ref cC_BadDeed) (.ref cC_NoCall) = some false
  ks_BadDeed_NoTest : PySem.W.kitOne K (.ref cC_BadDeed) (.ref cC_NoTest) = some false
  ks_BadDeed_NoCheck : PySem.W.kitOne K (.ref cC_BadDeed) (.ref cC_NoCheck) = some false
  ks_BadDeed_NothingToUndo : PySem.W.kitOne K (.ref cC_BadDeed) (.ref cC_NothingToUndo) = some false
  ks_BadDeed_Raised : PySem.W.kitOne K (.ref cC_BadDeed) (.ref cC_Raised) = some false
  ks_BadDeed_WhatpassesError : PySem.W.kitOne K (.ref cC_BadDeed) (.ref w_WhatpassesError) = some true
  ks_BadDeed_ValueError : PySem.W.kitOne K (.ref cC_BadDeed) (.type "ValueError") = some true
  ks_BadDeed_LookupError : PySem.W.kitOne K (.ref cC_BadDeed) (.type "LookupError") = some false
  ks_BadDeed_RuntimeError : PySem.W.kitOne K (.ref cC_BadDeed) (.type "RuntimeError") = some false
  ks_BadDeed_KeyError : PySem.W.kitOne K (.ref cC_BadDeed) (.type "KeyError") = some false
  ks_BadDeed_IndexError : PySem.W.kitOne K (.ref cC_BadDeed) (.type "IndexError") = some false
  ks_BadDeed_NotImplementedError : PySem.W.kitOne K (.ref cC_BadDeed) (.type "NotImplementedError") = some false
  ks_NoClass_BadFamily : PySem.W.kitOne K (.ref cC_NoClass) (.ref cC_BadFamily) = some false
  ks_NoClass_BadCall : PySem.W.kitOne K (.ref cC_NoClass) (.ref cC_BadCall) = some false
  ks_NoClass_BadTest : PySem.W.kitOne K (.ref cC_NoClass) (.ref cC_BadTest) = some false
  ks_NoClass_BadPart : PySem.W.kitOne K (.ref cC_NoClass) (.ref cC_BadPart) = some false
  ks_NoClass_BadSuite : PySem.W.kitOne K (.ref cC_NoClass) (.ref cC_BadSuite) = some false
  ks_NoClass_OtherFamily : PySem.W.kitOne K (.ref cC_NoClass) (.ref cC_OtherFamily) = some false
  ks_NoClass_BadDemand : PySem.W.kitOne K (.ref cC_NoClass) (.ref cC_BadDemand) = some false
  ks_NoClass_BadDeed : PySem.W.kitOne K (.ref cC_NoClass) (.ref cC_BadDeed) = some false
  ks_NoClass_NoClass : PySem.W.kitOne K (.ref cC_NoClass) (.ref cC_NoClass) = some true
  ks_NoClass_NoCall : PySem.W.kitOne K (.ref cC_NoClass) (.ref cC_NoCall) = some false
  ks_NoClass_NoTest : PySem.W.kitOne K (.ref cC_NoClass) (.ref cC_NoTest) = some false
  ks_NoClass_NoCheck : PySem.W.kitOne K (.ref cC_NoClass) (.ref cC_NoCheck) = some false
  ks_NoClass_NothingToUndo : PySem.W.kitOne K (.ref cC_NoClass) (.ref cC_NothingToUndo) = some false
  ks_NoClass_Raised : PySem.W.kitOne K (.ref cC_NoClass) (.ref cC_Raised) = some false
  ks_NoClass_WhatpassesError : PySem.W.kitOne K (.ref cC_NoClass) (.ref w_WhatpassesError) = some false
  ks_NoClass_ValueError : PySem.W.kitOne K (.ref cC_NoClass) (.type "ValueError") = some false
  ks_NoClass_LookupError : PySem.W.kitOne K (.ref cC_NoClass) (.type "LookupError") = some true
  ks_NoClass_RuntimeError : PySem.W.kitOne K (.ref cC_NoClass) (.type "RuntimeError") = some false
  ks_NoClass_KeyError : PySem.W.kitOne K (.ref cC_NoClass) (.type "KeyError") = some false
  ks_NoClass_IndexError : PySem.W.kitOne K (.ref cC_NoClass) (.type "IndexError") = some false
  ks_NoClass_NotImplementedError : PySem.W.kitOne K (.ref cC_NoClass) (.type "NotImplementedError") = some false
  ks_NoCall_BadFamily : PySem.W.kitOne K (.ref cC_NoCall) (.ref cC_BadFamily) = some false
  ks_NoCall_BadCall : PySem.W.kitOne K (.ref cC_NoCall) (.ref cC_BadCall) = some false
  ks_NoCall_BadTest : PySem.W.kitOne K (.ref cC_NoCall) (.ref cC_BadTest) = some false
  ks_NoCall_BadPart : PySem.W.kitOne K (.ref cC_NoCall) (.ref cC_BadPart) = some false
  ks_NoCall_BadSuite : PySem.W.kitOne K (.ref cC_NoCall) (.ref cC_BadSuite) = some false
  ks_NoCall_OtherFamily : PySem.W.kitOne K (.ref cC_NoCall) (.ref cC_OtherFamily) = some false
  ks_NoCall_BadDemand : PySem.W.kitOne K (.ref cC_NoCall) (.ref cC_BadDemand) = some false
  ks_NoCall_BadDeed : PySem.W.kitOne K (.ref cC_NoCall) (.ref cC_BadDeed) = some false
  ks_NoCall_NoClass : PySem.W.kitOne K (.ref cC_NoCall) (.ref cC_NoClass) = some false
  ks_NoCall_NoCall : PySem.W.kitOne K (.ref cC_NoCall) (.ref cC_NoCall) = some true
  ks_NoCall_NoTest : PySem.W.kitOne K (.ref cC_NoCall) (.ref cC_NoTest) = some false
  ks_NoCall_NoCheck : PySem.W.kitOne K (.ref cC_NoCall) (.ref cC_NoCheck) = some false
  ks_NoCall_NothingToUndo : PySem.W.kitOne K (.ref cC_NoCall) (.ref cC_NothingToUndo) = some false
  ks_NoCall_Raised : PySem.W.kitOne K (.ref cC_NoCall) (.ref cC_Raised) = some false
  ks_NoCall_WhatpassesError : PySem.W.kitOne K (.ref cC_NoCall) (.ref w_WhatpassesError) = some false
  ks_NoCall_ValueError : PySem.W.kitOne K (.ref cC_NoCall) (.type "ValueError") = some false
  ks_NoCall_LookupError : PySem.W.kitOne K (.ref cC_NoCall) (.type "LookupError") = some true
  ks_NoCall_RuntimeError : PySem.W.kitOne K (.ref cC_NoCall) (.type "RuntimeError") = some false
  ks_NoCall_KeyError : PySem.W.kitOne K (.ref cC_NoCall) (.type "KeyError") = some false
  ks_NoCall_IndexError : PySem.W.kitOne K (.ref cC_NoCall) (.type "IndexError") = some false
  ks_NoCall_NotImplementedError : PySem.W.kitOne K (.ref cC_NoCall) (.type "NotImplementedError") = some false
  ks_NoTest_BadFamily : PySem.W.kitOne K (.ref cC_NoTest) (.ref cC_BadFamily) = some false
  ks_NoTest_BadCall : PySem.W.kitOne K (.ref cC_NoTest) (.ref cC_BadCall) = some false
  ks_NoTest_BadTest : PySem.W.kitOne K (.ref cC_NoTest) (.ref cC_BadTest) = some false
  ks_NoTest_BadPart : PySem.W.kitOne K (.ref cC_NoTest) (.ref cC_BadPart) = some false
  ks_NoTest_BadSuite : PySem.W.kitOne K (.ref cC_NoTest) (.ref cC_BadSuite) = some false
  ks_NoTest_OtherFamily : PySem.W.kitOne K (.ref cC_NoTest) (.ref cC_OtherFamily) = some false
  ks_NoTest_BadDemand : PySem.W.kitOne K (.ref cC_NoTest) (.ref cC_BadDemand) = some false
  ks_NoTest_BadDeed : PySem.W.kitOne K (.ref cC_NoTest) (.ref cC_BadDeed) = some false
  ks_NoTest_NoClass : PySem.W.kitOne K (.ref cC_NoTest) (.ref cC_NoClass) = some false
  ks_NoTest_NoCall : PySem.W.kitOne K (.ref cC_NoTest) (.ref cC_NoCall) = some false
  ks_NoTest_NoTest : PySem.W.kitOne K (.ref cC_NoTest) (.ref cC_NoTest) = some true
  ks_NoTest_NoCheck : PySem.W.kitOne K (.ref cC_NoTest) (.ref cC_NoCheck) = some false
  ks_NoTest_NothingToUndo : PySem.W.kitOne K (.ref cC_NoTest) (.ref cC_NothingToUndo) = some false
  ks_NoTest_Raised : PySem.W.kitOne K (.ref cC_NoTest) (.ref cC_Raised) = some false
  ks_NoTest_WhatpassesError : PySem.W.kitOne K (.ref cC_NoTest) (.ref w_WhatpassesError) = some false
  ks_NoTest_ValueError : PySem.W.kitOne K (.ref cC_NoTest) (.type "ValueError") = some false
  ks_NoTest_LookupError : PySem.W.kitOne K (.ref cC_NoTest) (.type "LookupError") = some true
  ks_NoTest_RuntimeError : PySem.W.kitOne K (.ref cC_NoTest) (.type "RuntimeError") = some false
  ks_NoTest_KeyError : PySem.W.kitOne K (.ref cC_NoTest) (.type "KeyError") = some false
  ks_NoTest_IndexError : PySem.W.kitOne K (.ref cC_NoTest) (.type "IndexError") = some false
  ks_NoTest_NotImplementedError : PySem.W.kitOne K (.ref cC_NoTest) (.type "NotImplementedError") = some false
  ks_NoCheck_BadFamily : PySem.W.kitOne K (.ref cC_NoCheck) (.ref cC_BadFamily) = some false
  ks_NoCheck_BadCall : PySem.W.kitOne K (.ref cC_NoCheck) (.ref cC_BadCall) = some false
  ks_NoCheck_BadTest : PySem.W.kitOne K (.ref cC_NoCheck) (.ref cC_BadTest) = some false
  ks_NoCheck_BadPart : PySem.W.kitOne K (.ref cC_NoCheck) (.ref cC_BadPart) = some false
  ks_NoCheck_BadSuite : PySem.W.kitOne K (.ref cC_NoCheck) (.ref cC_BadSuite) = some false
  ks_NoCheck_OtherFamily : PySem.W.kitOne K (.ref cC_NoCheck) (.ref cC_OtherFamily) = some false
  ks_NoCheck_BadDemand : PySem.W.kitOne K (.ref cC_NoCheck) (.ref cC_BadDemand) = some false
  ks_NoCheck_BadDeed : PySem.W.kitOne K (.ref cC_NoCheck) (.ref cC_BadDeed) = some false
  ks_NoCheck_NoClass : PySem.W.kitOne K (.ref cC_NoCheck) (.ref cC_NoClass) = some false
  ks_NoCheck_NoCall : PySem.W.kitOne K (.ref cC_NoCheck) (.ref cC_NoCall) = some false
  ks_NoCheck_NoTest : PySem.W.kitOne K (.ref cC_NoCheck) (.ref cC_NoTest) = some false
  ks_NoCheck_NoCheck : PySem.W.kitOne K (.ref cC_NoCheck) (.ref cC_NoCheck) = some true
  ks_NoCheck_NothingToUndo : PySem.W.kitOne K (.ref cC_NoCheck) (.ref cC_NothingToUndo) = some false
  ks_NoCheck_Raised : PySem.W.kitOne K (.ref cC_NoCheck) (.ref cC_Raised) = some false
  ks_NoCheck_WhatpassesError : PySem.W.kitOne K (.ref cC_NoCheck) (.ref w_WhatpassesError) = some false
  ks_NoCheck_ValueError : PySem.W.kitOne K (.ref cC_NoCheck) (.type "ValueError") = some false
  ks_NoCheck_LookupError : PySem.W.kitOne K (.ref cC_NoCheck) (.type "LookupError") = some true
  ks_NoCheck_RuntimeError : PySem.W.kitOne K (.ref cC_NoCheck) (.type "RuntimeError") = some false
  ks_NoCheck_KeyError : PySem.W.kitOne K (.ref cC_NoCheck) (.type "KeyError") = some false
  ks_NoCheck_IndexError : PySem.W.kitOne K (.ref cC_NoCheck) (.type "IndexError") = some false
  ks_NoCheck_NotImplementedError : PySem.W.kitOne K (.ref cC_NoCheck) (.type "NotImplementedError") = some false
  ks_NothingToUndo_BadFamily : PySem.W.kitOne K (.ref cC_NothingToUndo) (.ref cC_BadFamily) = some false
  ks_NothingToUndo_BadCall : PySem.W.kitOne K (.ref cC_NothingToUndo) (.ref cC_BadCall) = some false
  ks_NothingToUndo_BadTest : PySem.W.kitOne K (.ref cC_NothingToUndo) (.ref cC_BadTest) = some false
  ks_NothingToUndo_BadPart : PySem.W.kitOne K (.ref cC_NothingToUndo) (.ref cC_BadPart) = some false
  ks_NothingToUndo_BadSuite : PySem.W.kitOne K (.ref cC_NothingToUndo) (.ref cC_BadSuite) = some false
  ks_NothingToUndo_OtherFamily : PySem.W.kitOne K (.ref cC_NothingToUndo) (.ref cC_OtherFamily) = some false
  ks_NothingToUndo_BadDemand : PySem.W.kitOne K (.ref cC_NothingToUndo) (.ref cC_BadDemand) = some false
  ks_NothingToUndo_BadDeed : PySem.W.kitOne K (.ref cC_NothingToUndo) (.ref cC_BadDeed) = some false
  ks_NothingToUndo_NoClass : PySem.W.kitOne K (.ref cC_NothingToUndo) (.ref cC_NoClass) = some false
  ks_NothingToUndo_NoCall : PySem.W.kitOne K (.ref cC_NothingToUndo) (.ref cC_NoCall) = some false
  ks_NothingToUndo_NoTest : PySem.W.kitOne K (.ref cC_NothingToUndo) (.ref cC_NoTest) = some false
  ks_NothingToUndo_NoCheck : PySem.W.kitOne K (.ref cC_NothingToUndo) (.ref cC_NoCheck) = some false
  ks_NothingToUndo_NothingToUndo : PySem.W.kitOne K (.ref cC_NothingToUndo) (.ref cC_NothingToUndo) = some true
  ks_NothingToUndo_Raised : PySem.W.kitOne K (.ref cC_NothingToUndo) (.ref cC_Raised) = some false
  ks_NothingToUndo_WhatpassesError : PySem.W.kitOne K (.ref cC_NothingToUndo) (.ref w_WhatpassesError) = some false
  ks_NothingToUndo_ValueError : PySem.W.kitOne K (.ref cC_NothingToUndo) (.type "ValueError") = some false
  ks_NothingToUndo_LookupError : PySem.W.kitOne K (.ref cC_NothingToUndo) (.type "LookupError") = some true
  ks_NothingToUndo_RuntimeError : PySem.W.kitOne K (.ref cC_NothingToUndo) (.type "RuntimeError") = some false
  ks_NothingToUndo_KeyError : PySem.W.kitOne K (.ref cC_NothingToUndo) (.type "KeyError") = some false
  ks_NothingToUndo_IndexError : PySem.W.kitOne K (.ref cC_NothingToUndo) (.type "IndexError") = some false
  ks_NothingToUndo_NotImplementedError : PySem.W.kitOne K (.ref cC_NothingToUndo) (.type "NotImplementedError") = some false
  ks_Raised_BadFamily : PySem.W.kitOne K (.ref cC_Raised) (.ref cC_BadFamily) = some false
  ks_Raised_BadCall : PySem.W.kitOne K (.ref cC_Raised) (.ref cC_BadCall) = some false
  ks_Raised_BadTest : PySem.W.kitOne K (.ref cC_Raised) (.ref cC_BadTest) = some false
  ks_Raised_BadPart : PySem.W.kitOne K (.ref cC_Raised) (.ref cC_BadPart) = some false
  ks_Raised_BadSuite : PySem.W.kitOne K (.ref cC_Raised) (.ref cC_BadSuite) = some false
  ks_Raised_OtherFamily : PySem.W.kitOne K (.ref cC_Raised) (.ref cC_OtherFamily) = some false
  ks_Raised_BadDemand : PySem.W.kitOne K (.ref cC_Raised) (.ref cC_BadDemand) = some false
  ks_Raised_BadDeed : PySem.W.kitOne K (.ref cC_Raised) (.ref cC_BadDeed) = some false
  ks_Raised_NoClass : PySem.W.kitOne K (.ref cC_Raised) (.ref cC_NoClass) = some false
  ks_Raised_NoCall : PySem.W.kitOne K (.ref cC_Raised) (.ref cC_NoCall) = some false
  ks_Raised_NoTest : PySem.W.kitOne K (.ref cC_Raised) (.ref cC_NoTest) = some false
  ks_Raised_NoCheck : PySem.W.kitOne K (.ref cC_Raised) (.ref cC_NoCheck) = some false
  ks_Raised_NothingToUndo : PySem.W.kitOne K (.ref cC_Raised) (.ref cC_NothingToUndo) = some false
  ks_Raised_Raised : PySem.W.kitOne K (.ref cC_Raised) (.ref cC_Raised) = some true
  ks_Raised_WhatpassesError : PySem.W.kitOne K (.ref cC_Raised) (.ref w_WhatpassesError) = some false
  ks_Raised_ValueError : PySem.W.kitOne K (.ref cC_Raised) (.type "ValueError") = some false
  ks_Raised_LookupError : PySem.W.kitOne K (.ref cC_Raised) (.type "LookupError") = some false
  ks_Raised_RuntimeError : PySem.W.kitOne K (.ref cC_Raised) (.type "RuntimeError") = some true
  ks_Raised_KeyError : PySem.W.kitOne K (.ref cC_Raised) (.type "KeyError") = some false
  ks_Raised_IndexError : PySem.W.kitOne K (.ref cC_Raised) (.type "IndexError") = some false
  ks_Raised_NotImplementedError : PySem.W.kitOne K (.ref cC_Raised) (.type "NotImplementedError") = some false
  m_IndexError : mg "IndexError" = none
  m_KeyError : mg "KeyError" = none
  m_LookupError : mg "LookupError" = none
  m_NotImplementedError : mg "NotImplementedError" = none
  m_RuntimeError : mg "RuntimeError" = none
  m_ValueError : mg "ValueError" = none
  m_abs : mg "abs" = none
  m_any : mg "any" = none
  m_int : mg "int" = none
  m_isinstance : mg "isinstance" = none
  m_len : mg "len" = none
  m_max : mg "max" = none
  m_min : mg "min" = none
  m_range : mg "range" = none
  m_repr : mg "repr" = none
  m_tuple : mg "tuple" = none
local macro_rules | `(tactic| walk_at "lw list") => `(tactic| first | assumption | exact upd_same | (rw [upd_ne (by assumption)]; assumption))
local macro_rules | `(tactic| walk_at "lw c") => `(tactic| first
  | (show (_ : Int) ≠ 0; omega)
  | exact log_small (by omega) (by assumption)
  | exact Or.inl ⟨by omega, by omega⟩
  | exact Or.inr ⟨by omega, by omega⟩
  | exact ⟨by omega, by omega⟩
  | exact ⟨by omega, by omega, by omega⟩)
local macro_rules | `(tactic| walk_at "lw n") => `(tactic| first | exact Nat.zero_le _ | (refine Nat.le_of_lt (small1000 ?_); simp only [List.length_cons, List.length_nil]; decide))
local macro_rules | `(tactic| walk_at "lw v") => `(tactic| first
  | refine ⟨_, rfl, ?_⟩
  | refine ⟨_, _, rfl, rfl, ?_⟩
  | refine ⟨_, _, rfl, ?_⟩
  | refine .inl ⟨_, rfl, ?_⟩
  | refine ⟨⟨_, rfl⟩, ?_⟩
  | refine ⟨rfl, ?_⟩
  | (refine' ⟨_, _, _, _, rfl, rfl, SqL.of ?h, ?r, ?_⟩; (case h => walk_at "lw list"); (case r => rfl))
  | (refine' ⟨_, _, _, _, rfl, rfl, ?h, ?r, ?_⟩; (case h => walk_at "lw list"); (case r => rfl))
  | (refine' ⟨_, _, rfl, .inl ⟨_, SqL.of ?h, rfl⟩, ?_⟩; (case h => walk_at "lw list"))
  | (refine' ⟨_, _, rfl, .inl ⟨_, ?h, rfl⟩, ?_⟩; (case h => assumption))
  | (refine' ⟨_, _, rfl, .inr ⟨_, ?h, rfl⟩, ?_⟩; (case h => assumption))
  | (refine ⟨_, _, rfl, ⟨(by have := PySem.sizeLine_eq; omega), rfl⟩, ?_⟩)
  | (refine ⟨(by walk_at "lw c"), ?_⟩))
local macro_rules | `(tactic| walk_at "lw isi") => `(tactic| (refine' ⟨_, _, _, _, _, rfl, .ty _, ?ty, ?k, ?_⟩; (case ty => first | exact ty_int | exact ty_str | exact ty_non | exact ty_bl | exact ty_lst (by assumption) | exact ty_tup (by assumption) | exact ty_sqL (by assumption) | exact ty_sqT (by assumption)); (case k => first | (refine kit_of2 true ?_; decide +kernel) | (refine kit_of2 false ?_; decide +kernel))))
local macro_rules | `(tactic| walk_at "lw w") => `(tactic| first | walk_at "lw v" | walk_at "lw isi")

/-! ### own errors, defs with a star -/
/-- __init__ of an error with one field -/
def sp_init (f : Str) (C : Addr) : Sp := fun vs H Q _ => ∃ (a : Addr) (v : V), vs = [.ref a, v] ∧ H a = some (exo a C none) ∧ ∀ dx, H dx = none → dx ≠ a → Q .non (upd (upd H dx (exd dx [(f, v)])) a (exo a C (some dx)))
/-- an error is made: what its making asks -/
theorem mk_err {f : Str} {C : Addr} {v : V} {H1 : Hp} {Q : XK} (h : ∀ d, H1 d = none → Q (.ref C) (some d) (upd H1 d (.xd [(f, v)]))) :
    [v].length ≤ 1000 ∧ ∀ a, H1 a = none → sp_init f C (.ref a :: ([v] ++ [])) (upd H1 a (exo a C none))
      (fun u H2 => u = .non ∧ ∃ (d : Addr) (fs : List (Str × V)), H2 a = some (exo a C (some d)) ∧ H2 d = some (exd d fs) ∧ H1 d = none ∧ Q (.ref C) (some d) (upd (del H2 a) d (.xd fs))) (fun _ _ _ => False) := by
  refine ⟨(show 1 ≤ 1000 by decide), fun a na => ⟨a, v, rfl, upd_same, fun dx nd ne => ⟨rfl, dx, [(f, v)], upd_same, ?_, ?_, ?_⟩⟩⟩
  · rw [upd_ne ne]
    exact upd_same
  · rw [upd_ne ne] at nd
    exact nd
  · have e : upd (del (upd (upd (upd H1 a (exo a C none)) dx (exd dx [(f, v)])) a (exo a C (some dx))) a) dx (.xd [(f, v)]) = upd H1 dx (.xd [(f, v)]) := by
      funext q
      by_cases h1 : q = dx
      · rw [h1, upd_same, upd_same]
      · rw [upd_ne h1, upd_ne h1]
        by_cases h2 : q = a
        · rw [h2, del_same, na]
        · rw [del_ne h2, upd_ne h2, upd_ne h1, upd_ne h2]
    rw [e]
    rw [upd_ne ne] at nd
    exact h dx nd

/-! ### own errors by data -/
/-- the field of an error of whatever own class -/
def tXfG (K : PySem.W.Frag) (f : Str) (te : TE) : TE := fun σ H Q => te σ H fun y H1 => ∃ (C a dd : Addr) (fs : List (Str × V)) (v : V), y = .ref a ∧ XfC K C ∧ PySem.W.findIn K (.ref C) f = some none ∧ H1 a = some (ExK (.ref C) (some dd) a) ∧ H1 dd = some (.xd fs) ∧ fs.lookup f = some v ∧ Q v H1
theorem pe_xfG {X : Cx} {K : PySem.W.Frag} {e : Expr} {te : TE} {pos : Pos} {n : Str} (hK : X.K = K) (he : PE X e te) (hb : attributeBase e n X.env (eval e X.env) = eval e X.env := by rfl) : PE X (.Attribute e n pos) (tXfG K n te) := by
  subst hK
  refine ⟨fun pins s σ H Q I h => attr_of hb (thn (he.run pins s σ H _ I h) fun u s1 hh => ?_)⟩
  obtain ⟨y, H1, I1, ry, C, a, dd, fs, v, rfl, T, hno, ea, ed, l, q⟩ := hh
  obtain rfl : u = Value.ref a := ry
  obtain ⟨⟨ob, fl, g1, g2, g3⟩, _, _⟩ := I1.hok a _ ea
  obtain ⟨mA, ns, rel⟩ := (I1.hok dd _ ed : ObjOk X.prog X.w H1 s1.heap dd (.xd fs))
  obtain ⟨od, ho, hl⟩ := lookIn_ns ns
  obtain ⟨z, hz, rz⟩ := RelO.some_of (v := v) (o := mA n) (by rw [← l]; exact rel n)
  have inst : PySem.W.InstAt s1.heap a ob C (some od) := ⟨g1, g2.1, by unfold PySem.W.notCls; rw [g3] <;> rfl, by rw [g2.2]; exact ho⟩
  exact HandSPX.exc_get I1.kIn inst T.ga T.gg T.exC (PySem.W.findObj_own T.hdC hno rfl (by rw [hl, hz])) (handed_of rz) ⟨v, H1, I1.tok _, rz, q⟩
/-- __init__ of an error with two fields -/
def sp_init2 (f g : Str) (C : Addr) : Sp := fun vs H Q _ => ∃ (a : Addr) (v u : V), vs = [.ref a, v, u] ∧ H a = some (exo a C none) ∧
  ∀ dn, H dn = none → dn ≠ a → Q .non (upd (upd (upd H dn (exd dn [(f, v)])) a (exo a C (some dn))) dn (exd dn [(g, u), (f, v)]))
theorem mk_err2 {f g : Str} {C : Addr} {v u : V} {H1 : Hp} {Q : XK} (h : ∀ d, H1 d = none → Q (.ref C) (some d) (upd H1 d (.xd [(g, u), (f, v)]))) :
    [v, u].length ≤ 1000 ∧ ∀ a, H1 a = none → sp_init2 f g C (.ref a :: ([v, u] ++ [])) (upd H1 a (exo a C none))
      (fun z H2 => z = .non ∧ ∃ (d : Addr) (fs : List (Str × V)), H2 a = some (exo a C (some d)) ∧ H2 d = some (exd d fs) ∧ H1 d = none ∧ Q (.ref C) (some d) (upd (del H2 a) d (.xd fs))) E0 := by
  refine ⟨(show 2 ≤ 1000 by decide), fun a na => ⟨a, v, u, rfl, upd_same, fun dn nd ne => ⟨rfl, dn, [(g, u), (f, v)], ?_, upd_same, ?_, ?_⟩⟩⟩
  · rw [upd_ne (Ne.symm ne), upd_same]
  · rw [upd_ne ne] at nd
    exact nd
  · have e : upd (del (upd (upd (upd (upd H1 a (exo a C none)) dn (exd dn [(f, v)])) a (exo a C (some dn))) dn (exd dn [(g, u), (f, v)])) a) dn (.xd [(g, u), (f, v)]) = upd H1 dn (.xd [(g, u), (f, v)]) := by
      funext q
      by_cases h1 : q = dn
      · rw [h1, upd_same, upd_same]
      · rw [upd_ne h1, upd_ne h1]
        by_cases h2 : q = a
        · rw [h2, del_same, na]
        · rw [del_ne h2, upd_ne h1, upd_ne h2, upd_ne h1, upd_ne h2]
    rw [e]
    rw [upd_ne ne] at nd
    exact h dn nd
section
variable {K : PySem.W.Frag} {W : Wx} {X : Er → Sls → Prop} {ρ : Sls}
theorem we_xfG {f : Str} {te : TE} {Q : Av → Sls → Prop} (h : WE K W te ρ (fun a ρ1 => ∃ C ns xs d, a = .dt (.exo C ns xs) ∧ XfC K C ∧ PySem.W.findIn K (.ref C) f = some none ∧ lookU ns xs f = some d ∧ Q (.dt d) ρ1) X) : WE K W (tXfG K f te) ρ Q X := by
  rintro s Q0 rfl D x k
  refine h s _ rfl D x fun v a s1 n ok ⟨C, ns, xs, d, e, T, hno, l, q⟩ => ?_
  subst e
  have ok : At K s1.G v (.exo C ns xs) := ok
  cases ok with
  | exo hs he ha =>
    obtain ⟨z, e1, e2⟩ := ha.lookU l
    exact ⟨_, _, _, _, z, rfl, T, hno, n.den.sub _ _ hs, n.den.sub _ _ he, e1, k z (.dt d) s1 n e2 q⟩
  | exo0 hs => cases l
/-- an error is made: its dict, itself -/
theorem exo_laid {s : Sta} {C dn a : Addr} {fs : List (Str × V)} {ds : List U} (D : Den K s) (hd : s.H dn = none) (ha : upd s.H dn (.xd fs) a = none) (at_ : AtAll K s.G (fs.map (·.2)) ds) :
    ∃ s2, s2.ρ = s.ρ ∧ s2.H = upd (upd s.H dn (.xd fs)) a (ExK (.ref C) (some dn) a) ∧ Nxt K s s2 ∧ At K s2.G (.ref a) (.exo C (fs.map (·.1)) ds) := by
  obtain ⟨n1, sub1⟩ := layF (o := .xd fs) D hd
  obtain ⟨n2, sub2⟩ := layF (o := ExK (.ref C) (some dn) a) n1.den ha
  have ne : dn ≠ a := fun z => by
    rw [← z, upd_same] at ha
    cases ha
  exact ⟨{ s with G := upd (upd s.G dn (.xd fs)) a (ExK (.ref C) (some dn) a), H := upd (upd s.H dn (.xd fs)) a (ExK (.ref C) (some dn) a) }, rfl, rfl, n1.trans n2, .exo upd_same ((upd_ne ne).trans upd_same) (AtAll.mono sub2 _ _ (AtAll.mono sub1 _ _ at_))⟩
theorem we_mkE {C : Addr} {f : Str} {ta : TA} {Q : Av → Sls → Prop} (h : WA K W ta ρ (fun as ρ1 => ∃ d ρ2, Frz ρ1 as [d] ρ2 ∧ Q (.dt (.exo C [f] [d])) ρ2) X) : WE K W (tMkV (tMkO C (sp_init f C) [] ta)) ρ Q X := by
  rintro s Q0 rfl D x k
  refine h s _ rfl D x fun vs as s1 n1 ok ⟨d, ρ2, fz, q⟩ => ?_
  obtain ⟨s2, e1, e2, n2, hd⟩ := fz.run rfl n1.den ok
  cases hd with
  | @cons v _ _ _ hv ht =>
    cases ht
    refine mk_err (Q := fun cls dd H2 => ∀ a, H2 a = none → Q0 (.ref a) (upd H2 a (ExK cls dd a))) fun dn nd a na => ?_
    rw [← e2] at nd na ⊢
    obtain ⟨s3, e3, e4, n3, at3⟩ := exo_laid (C := C) (fs := [(f, v)]) (ds := [d]) n2.den nd na (.cons hv .nil)
    rw [← e4]
    exact k _ (.dt _) s3 (n1.trans (n2.trans n3)) at3 (by rw [e3, e1]; exact q)
theorem we_mkE2 {C : Addr} {f g : Str} {ta : TA} {Q : Av → Sls → Prop} (h : WA K W ta ρ (fun as ρ1 => ∃ d e ρ2, Frz ρ1 as [d, e] ρ2 ∧ Q (.dt (.exo C [g, f] [e, d])) ρ2) X) : WE K W (tMkV (tMkO C (sp_init2 f g C) [] ta)) ρ Q X := by
  rintro s Q0 rfl D x k
  refine h s _ rfl D x fun vs as s1 n1 ok ⟨d, e, ρ2, fz, q⟩ => ?_
  obtain ⟨s2, e1, e2, n2, hd⟩ := fz.run rfl n1.den ok
  cases hd with
  | @cons v _ _ _ hv ht =>
    cases ht with
    | @cons u _ _ _ hu ht =>
      cases ht
      refine mk_err2 (Q := fun cls dd H2 => ∀ a, H2 a = none → Q0 (.ref a) (upd H2 a (ExK cls dd a))) fun dn nd a na => ?_
      rw [← e2] at nd na ⊢
      obtain ⟨s3, e3, e4, n3, at3⟩ := exo_laid (C := C) (fs := [(g, u), (f, v)]) (ds := [e, d]) n2.den nd na (.cons hu (.cons hv .nil))
      rw [← e4]
      exact k _ (.dt _) s3 (n1.trans (n2.trans n3)) at3 (by rw [e3, e1]; exact q)
theorem we_excN {C : Addr} {Q : Av → Sls → Prop} (q : Q (.dt (.exo C [] [])) ρ) : WE K W (fun σ H Q => ∀ a, H a = none → Q (.ref a) (upd H a (ExK (.ref C) none a))) ρ Q X := by
  rintro s Q0 rfl D x k a na
  obtain ⟨n1, sub1⟩ := layF (o := ExK (.ref C) none a) D na
  exact k (.ref a) (.dt (.exo C [] [])) _ n1 (At.exo0 upd_same) q
end

section
variable {P : Program} {w : World} {K : PySem.W.Frag} {mg : Str → Option Value} {base : Heap}
theorem gi_BadFamily (T : Txt K mg) : FnOk P w K mg base CX0 1 T.cI_BadFamily T.cfd_BadFamily ["self", "at"] (sp_init "at" T.cC_BadFamily) := by
  refine T.cF_BadFamily.ok sci_BadFamily (fun vs H Q E h => ?_) (fun cdv A outer s H vs Q E hr h => ?_)
  · obtain ⟨a, v, rfl, _⟩ := h
    rfl
  · obtain ⟨a, v, rfl, ha, q⟩ := h
    exact ⟨_, pss_one (ps_ostG (pv 0) (pv 1)), v, rfl, .ref a, rfl, a, T.cC_BadFamily, rfl, T.cV_BadFamily.o, T.cn_BadFamily_at, .inl ⟨ha, fun dn nd ne => q dn nd ne⟩⟩
theorem gi_BadCall (T : Txt K mg) : FnOk P w K mg base CX0 1 T.cI_BadCall T.cfd_BadCall ["self", "at"] (sp_init "at" T.cC_BadCall) := by
  refine T.cF_BadCall.ok sci_BadCall (fun vs H Q E h => ?_) (fun cdv A outer s H vs Q E hr h => ?_)
  · obtain ⟨a, v, rfl, _⟩ := h
    rfl
  · obtain ⟨a, v, rfl, ha, q⟩ := h
    exact ⟨_, pss_one (ps_ostG (pv 0) (pv 1)), v, rfl, .ref a, rfl, a, T.cC_BadCall, rfl, T.cV_BadCall.o, T.cn_BadCall_at, .inl ⟨ha, fun dn nd ne => q dn nd ne⟩⟩
theorem gi_BadTest (T : Txt K mg) : FnOk P w K mg base CX0 1 T.cI_BadTest T.cfd_BadTest ["self", "at"] (sp_init "at" T.cC_BadTest) := by
  refine T.cF_BadTest.ok sci_BadTest (fun vs H Q E h => ?_) (fun cdv A outer s H vs Q E hr h => ?_)
  · obtain ⟨a, v, rfl, _⟩ := h
    rfl
  · obtain ⟨a, v, rfl, ha, q⟩ := h
    exact ⟨_, pss_one (ps_ostG (pv 0) (pv 1)), v, rfl, .ref a, rfl, a, T.cC_BadTest, rfl, T.cV_BadTest.o, T.cn_BadTest_at, .inl ⟨ha, fun dn nd ne => q dn nd ne⟩⟩
theorem gi_BadPart (T : Txt K mg) : FnOk P w K mg base CX0 1 T.cI_BadPart T.cfd_BadPart ["self", "at"] (sp_init "at" T.cC_BadPart) := by
  refine T.cF_BadPart.ok sci_BadPart (fun vs H Q E h => ?_) (fun cdv A outer s H vs Q E hr h => ?_)
  · obtain ⟨a, v, rfl, _⟩ := h
    rfl
  · obtain ⟨a, v, rfl, ha, q⟩ := h
    exact ⟨_, pss_one (ps_ostG (pv 0) (pv 1)), v, rfl, .ref a, rfl, a, T.cC_BadPart, rfl, T.cV_BadPart.o, T.cn_BadPart_at, .inl ⟨ha, fun dn nd ne => q dn nd ne⟩⟩
theorem gi_BadSuite (T : Txt K mg) : FnOk P w K mg base CX0 1 T.cI_BadSuite T.cfd_BadSuite ["self", "at"] (sp_init "at" T.cC_BadSuite) := by
  refine T.cF_BadSuite.ok sci_BadSuite (fun vs H Q E h => ?_) (fun cdv A outer s H vs Q E hr h => ?_)
  · obtain ⟨a, v, rfl, _⟩ := h
    rfl
  · obtain ⟨a, v, rfl, ha, q⟩ := h
    exact ⟨_, pss_one (ps_ostG (pv 0) (pv 1)), v, rfl, .ref a, rfl, a, T.cC_BadSuite, rfl, T.cV_BadSuite.o, T.cn_BadSuite_at, .inl ⟨ha, fun dn nd ne => q dn nd ne⟩⟩
theorem gi_OtherFamily (T : Txt K mg) : FnOk P w K mg base CX0 1 T.cI_OtherFamily T.cfd_OtherFamily ["self", "at"] (sp_init "at" T.cC_OtherFamily) := by
  refine T.cF_OtherFamily.ok sci_OtherFamily (fun vs H Q E h => ?_) (fun cdv A outer s H vs Q E hr h => ?_)
  · obtain ⟨a, v, rfl, _⟩ := h
    rfl
  · obtain ⟨a, v, rfl, ha, q⟩ := h
    exact ⟨_, pss_one (ps_ostG (pv 0) (pv 1)), v, rfl, .ref a, rfl, a, T.cC_OtherFamily, rfl, T.cV_OtherFamily.o, T.cn_OtherFamily_at, .inl ⟨ha, fun dn nd ne => q dn nd ne⟩⟩
theorem gi_BadDemand (T : Txt K mg) : FnOk P w K mg base CX0 1 T.cI_BadDemand T.cfd_BadDemand ["self", "at"] (sp_init "at" T.cC_BadDemand) := by
  refine T.cF_BadDemand.ok sci_BadDemand (fun vs H Q E h => ?_) (fun cdv A outer s H vs Q E hr h => ?_)
  · obtain ⟨a, v, rfl, _⟩ := h
    rfl
  · obtain ⟨a, v, rfl, ha, q⟩ := h
    exact ⟨_, pss_one (ps_ostG (pv 0) (pv 1)), v, rfl, .ref a, rfl, a, T.cC_BadDemand, rfl, T.cV_BadDemand.o, T.cn_BadDemand_at, .inl ⟨ha, fun dn nd ne => q dn nd ne⟩⟩
theorem gi_BadDeed (T : Txt K mg) : FnOk P w K mg base CX0 1 T.cI_BadDeed T.cfd_BadDeed ["self", "at"] (sp_init "at" T.cC_BadDeed) := by
  refine T.cF_BadDeed.ok sci_BadDeed (fun vs H Q E h => ?_) (fun cdv A outer s H vs Q E hr h => ?_)
  · obtain ⟨a, v, rfl, _⟩ := h
    rfl
  · obtain ⟨a, v, rfl, ha, q⟩ := h
    exact ⟨_, pss_one (ps_ostG (pv 0) (pv 1)), v, rfl, .ref a, rfl, a, T.cC_BadDeed, rfl, T.cV_BadDeed.o, T.cn_BadDeed_at, .inl ⟨ha, fun dn nd ne => q dn nd ne⟩⟩
theorem gi_NoClass (T : Txt K mg) : FnOk P w K mg base CX0 1 T.cI_NoClass T.cfd_NoClass ["self", "name"] (sp_init "name" T.cC_NoClass) := by
  refine T.cF_NoClass.ok sci_NoClass (fun vs H Q E h => ?_) (fun cdv A outer s H vs Q E hr h => ?_)
  · obtain ⟨a, v, rfl, _⟩ := h
    rfl
  · obtain ⟨a, v, rfl, ha, q⟩ := h
    exact ⟨_, pss_one (ps_ostG (pv 0) (pv 1)), v, rfl, .ref a, rfl, a, T.cC_NoClass, rfl, T.cV_NoClass.o, T.cn_NoClass_name, .inl ⟨ha, fun dn nd ne => q dn nd ne⟩⟩
theorem gi_NoCall (T : Txt K mg) : FnOk P w K mg base CX0 1 T.cI_NoCall T.cfd_NoCall ["self", "text"] (sp_init "text" T.cC_NoCall) := by
  refine T.cF_NoCall.ok sci_NoCall (fun vs H Q E h => ?_) (fun cdv A outer s H vs Q E hr h => ?_)
  · obtain ⟨a, v, rfl, _⟩ := h
    rfl
  · obtain ⟨a, v, rfl, ha, q⟩ := h
    exact ⟨_, pss_one (ps_ostG (pv 0) (pv 1)), v, rfl, .ref a, rfl, a, T.cC_NoCall, rfl, T.cV_NoCall.o, T.cn_NoCall_text, .inl ⟨ha, fun dn nd ne => q dn nd ne⟩⟩
theorem gi_NoTest (T : Txt K mg) : FnOk P w K mg base CX0 1 T.cI_NoTest T.cfd_NoTest ["self", "name"] (sp_init "name" T.cC_NoTest) := by
  refine T.cF_NoTest.ok sci_NoTest (fun vs H Q E h => ?_) (fun cdv A outer s H vs Q E hr h => ?_)
  · obtain ⟨a, v, rfl, _⟩ := h
    rfl
  · obtain ⟨a, v, rfl, ha, q⟩ := h
    exact ⟨_, pss_one (ps_ostG (pv 0) (pv 1)), v, rfl, .ref a, rfl, a, T.cC_NoTest, rfl, T.cV_NoTest.o, T.cn_NoTest_name, .inl ⟨ha, fun dn nd ne => q dn nd ne⟩⟩
theorem gi_NoCheck (T : Txt K mg) : FnOk P w K mg base CX0 1 T.cI_NoCheck T.cfd_NoCheck ["self", "line"] (sp_init "line" T.cC_NoCheck) := by
  refine T.cF_NoCheck.ok sci_NoCheck (fun vs H Q E h => ?_) (fun cdv A outer s H vs Q E hr h => ?_)
  · obtain ⟨a, v, rfl, _⟩ := h
    rfl
  · obtain ⟨a, v, rfl, ha, q⟩ := h
    exact ⟨_, pss_one (ps_ostG (pv 0) (pv 1)), v, rfl, .ref a, rfl, a, T.cC_NoCheck, rfl, T.cV_NoCheck.o, T.cn_NoCheck_line, .inl ⟨ha, fun dn nd ne => q dn nd ne⟩⟩
theorem gi_Raised (T : Txt K mg) : FnOk P w K mg base CX0 1 T.cI_Raised T.cfd_Raised ["self", "kind", "cause"] (sp_init2 "kind" "cause" T.cC_Raised) := by
  refine T.cF_Raised.ok sci_Raised (fun vs H Q E h => ?_) (fun cdv A outer s H vs Q E hr h => ?_)
  · obtain ⟨a, v, u, rfl, _⟩ := h
    rfl
  · obtain ⟨a, v, u, rfl, ha, q⟩ := h
    exact ⟨_, pss_cons (ps_ostG (pv 0) (pv 1)) (pss_one (ps_ostG (pv 0) (pv 2))), v, rfl, .ref a, rfl, a, T.cC_Raised, rfl, T.cV_Raised.o, T.cn_Raised_kind, .inl ⟨ha, fun dn nd ne => ⟨u, rfl, .ref a, rfl, a, T.cC_Raised, rfl, T.cV_Raised.o, T.cn_Raised_cause, .inr ⟨dn, _, upd_same, (upd_ne ne).trans upd_same, Nat.le_of_ble_eq_true rfl, q dn nd ne⟩⟩⟩⟩
end
/-! ### sep.join(texts) by data -/
section
variable {K : PySem.W.Frag} {W : Wx} {X : Er → Sls → Prop} {ρ : Sls}
theorem ats_strs {G : Hp} : ∀ {vs : List V} {zs : List Str}, AtAll K G vs (zs.map .str) → vs = zs.map V.str
  | _, [], h => by cases h; rfl
  | _, z :: zs, h => by
    cases h with
    | cons h1 h2 =>
      cases h1
      rw [ats_strs h2]
      rfl
theorem we_join {to te : TE} {Q : Av → Sls → Prop} (h : WE K W to ρ (fun a ρ1 => ∃ sep, a = .dt (.str sep) ∧ WE K W te ρ1 (fun b ρ2 => ∃ zs : List Str, View ρ2 b.fl (.lst (zs.map .str)) ∧ (zs.map (·.length)).sum + zs.length * sep.length ≤ 1000000 ∧ Q (.dt (.str (Txt.join sep zs))) ρ2) X) X) :
    WE K W (tM1 (fun x xs H Q => ∃ a p, ∃ ys : List Str, x = .str a ∧ xs = [.ref p] ∧ (SqL K H p (ys.map V.str) ∨ SqT K H p (ys.map V.str)) ∧ (ys.map (·.length)).sum + ys.length * a.length ≤ 16777216 ∧ Q (.str (Txt.join a ys)) H) to te) ρ Q X := by
  rintro s Q0 rfl D x k
  refine h s _ rfl D x fun v a s1 n1 ok ⟨sep, e, q⟩ => ?_
  subst e
  have ok : At K s1.G v (.str sep) := ok
  cases ok
  refine ⟨⟨_, rfl⟩, ?_⟩
  rw [← n1.slots]
  refine WE.flat (Q := fun b ρ2 => ∃ zs : List Str, View ρ2 b (.lst (zs.map .str)) ∧ (zs.map (·.length)).sum + zs.length * sep.length ≤ 1000000 ∧ Q (.dt (.str (Txt.join sep zs))) ρ2) q rfl n1.den (x.next n1.stp) fun w b s2 n2 f2 ok2 ⟨zs, hw, hz, q2⟩ => ?_
  obtain ⟨p, xs, rfl, e1, e2⟩ := view_list n2.den ok2 hw
  rw [ats_strs e2] at e1
  exact ⟨sep, p, zs, rfl, rfl, .inl (SqL.of e1), Nat.le_trans hz (by decide), k _ (.dt _) s2 (n1.trans n2) (At.str _) q2⟩
end

/-! ### words -/
/-- a word: small letters, at most m -/
def IsWord (z : Str) (m : Nat) : Prop := z.length ≤ m ∧ z.cps.toList.all isLow = true
/-- texts joined, as lists of codes -/
def joinL (sep : List Nat) : List (List Nat) → List Nat
  | [] => []
  | [x] => x
  | x :: y :: r => x ++ sep ++ joinL sep (y :: r)
theorem str_join_list (sep : Str) : ∀ ys : List Str, (Str.join sep ys).cps.toList = joinL sep.cps.toList (ys.map fun y => y.cps.toList)
  | [] => rfl
  | [x] => rfl
  | x :: y :: r => by
    have ih := str_join_list sep (y :: r)
    show ((x.cps ++ sep.cps) ++ (Str.join sep (y :: r)).cps).toList = _
    rw [Array.toList_append, Array.toList_append, ih]
    rfl
theorem join_list (sep : Str) (ys : List Str) : (Txt.join sep ys).cps.toList = joinL sep.cps.toList (ys.map fun y => y.cps.toList) := by
  show (PySem.Builtin.Str.glued sep ys).cps.toList = _
  rw [StrLaws.glued_eq_join]
  exact str_join_list sep ys
theorem joinL_nil : ∀ ls : List (List Nat), joinL [] ls = ls.flatten
  | [] => rfl
  | [x] => by simp [joinL]
  | x :: y :: r => by
    show x ++ [] ++ joinL [] (y :: r) = _
    rw [joinL_nil (y :: r), List.append_nil]
    rfl
theorem joined_word {ys : List Str} {m : Nat} (h : ys.length ≤ m) (h1 : ∀ y ∈ ys, ∃ c, y = ⟨#[c]⟩ ∧ isLow c = true) : IsWord (Txt.join (Str.ofString "") ys) m := by
  have e : (Txt.join (Str.ofString "") ys).cps.toList = (ys.map fun y => y.cps.toList).flatten := by
    rw [join_list, show (Str.ofString "").cps.toList = [] from rfl, joinL_nil]
  have g : ∀ ys : List Str, (∀ y ∈ ys, ∃ c, y = ⟨#[c]⟩ ∧ isLow c = true) → ((ys.map fun y => y.cps.toList).flatten).length = ys.length ∧ ((ys.map fun y => y.cps.toList).flatten).all isLow = true := by
    intro ys
    induction ys with
    | nil => intro _; exact ⟨rfl, rfl⟩
    | cons y r ih =>
      intro h
      obtain ⟨c, rfl, hc⟩ := h y List.mem_cons_self
      obtain ⟨i1, i2⟩ := ih fun z hz => h z (List.mem_cons_of_mem _ hz)
      have e : ((Str.mk #[c] :: r).map fun y => y.cps.toList).flatten = c :: (r.map fun y => y.cps.toList).flatten := rfl
      rw [e]
      refine ⟨?_, ?_⟩
      · rw [List.length_cons, i1, List.length_cons]
      · rw [List.all_cons, hc, i2]
        rfl
  obtain ⟨g1, g2⟩ := g ys h1
  refine ⟨?_, ?_⟩
  · show (Txt.join (Str.ofString "") ys).cps.size ≤ m
    rw [← Array.length_toList, e, g1]
    exact h
  · rw [e]
    exact g2

local macro_rules | `(tactic| walk_at "unorm") => `(tactic| (dsimp only [upds, setC, Av.fl, Arg.slot, List.map_cons, List.map_nil, List.getElem?_cons_zero, List.getElem?_cons_succ, List.set_cons_zero, List.set_cons_succ, List.cons_append, List.nil_append, wipeE, mixE, keepV]))
local macro_rules | `(tactic| walk_at "uview") => `(tactic| first | exact rfl | exact ⟨_, rfl, .inr rfl⟩ | exact ⟨_, rfl, .inl rfl⟩)
local macro_rules | `(tactic| walk_at "ufrz") => `(tactic| exact frzC_ok rfl)
local macro_rules | `(tactic| walk_at "uc") => `(tactic| first
  | (show (_ : Int) ≠ 0; omega)
  | exact log_small (by omega) (by assumption)
  | exact Or.inl ⟨by omega, by omega⟩
  | exact Or.inr ⟨by omega, by omega⟩
  | exact ⟨by omega, by omega⟩
  | exact ⟨by omega, by omega, by omega⟩)
local macro_rules | `(tactic| walk_at "ul") => `(tactic| first | (simp only [List.length_cons, List.length_nil]; omega) | (simp only [List.length_cons, List.length_nil]; decide))
local macro_rules | `(tactic| walk_at "u") => `(tactic| first
  | with_reducible refine ws_seq ?_
  | with_reducible refine ws_if ?_
  | with_reducible refine ws_ret ?_
  | with_reducible refine ws_set ?_
  | ((with_reducible show WS _ _ (tDrop (tBM _ _ _ _ _)) _ _); (refine' ws_append ?h ?c); (case c => exact ⟨_, _, rfl, rfl⟩))
  | with_reducible refine ws_drop ?_
  | with_reducible refine ws_next ?_
  | with_reducible refine we_op ?_
  | with_reducible refine we_cb ?_
  | with_reducible refine we_call ?_
  | with_reducible refine we_if ?_
  | with_reducible refine we_tup ?_
  | with_reducible refine we_lst ?_
  | ((with_reducible show WR _ _ _ _ _ _ _ _); first
     | (refine' wr_I0 (fun _ => .int _) ?_; done)
     | refine' wr_I0 (fun _ => .int _) ?_
     | refine' wr_I0 (fun _ => .bl _) ?_
     | (refine' wr_I ?c (fun _ => .int _) ?_; (case c => walk_at "uc"))
     | refine' wr_ip ?_
     | (refine' wr_eq rfl rfl ?c ?_; (case c => exact rfl))
     | (refine' wr_ne rfl rfl ?c ?_; (case c => exact rfl))
     | (refine' wr_ixL ?w ?e ?_; (case w => walk_at "uview"); (case e => exact rfl))
     | (refine' wr_ixT ?w ?e ?_; (case w => walk_at "uview"); (case e => exact rfl))
     | (refine' wr_cat ?a ?b ?c ?_; (case a => walk_at "uview"); (case b => walk_at "uview"); (case c => walk_at "ul"))
     | (refine' wr_isN ?w ?_; (case w => walk_at "uview"))
     | (refine' wr_notN ?w ?_; (case w => walk_at "uview"))
     | (refine' wr_cat_str ?c ?_; (case c => walk_at "ul"))
     | refine' wr_isB ?_
     | refine' wr_notB ?_
     | refine' wr_in_sign ?_
     | (refine' wr_ix ?_; first
        | (refine' .inl (wr_ixL ?w ?e ?_); (case w => walk_at "uview"); (case e => exact rfl))
        | (refine' .inr (.inl (wr_ixT ?w ?e ?_)); (case w => walk_at "uview"); (case e => exact rfl))))
  | ((with_reducible show WC _ _ _ _ _ _ _); first
     | refine' wc_int ?_
     | refine' wc_int_bl ?_
     | refine' wc_abs ?_
     | refine' wc_max ?_
     | refine' wc_min ?_
     | (refine' wc_len ?w ?e ?_; (case w => walk_at "uview"); (case e => exact rfl))
     | (refine' wc_lenS ?h ?_; (case h => omega))
     | (refine' wc_isi ?w ?p ?e ?_; (case w => walk_at "uview"); (case p => exact rfl); (case e => first | (refine kit_of2 true ?_; decide +kernel) | (refine kit_of2 false ?_; decide +kernel)))
     | (refine' wc_tuple ?w ?_; (case w => walk_at "uview"))
     | (refine' wc_list ?w ?_; (case w => first | (refine' .inl ?_; walk_at "uview") | (refine' .inr ?_; walk_at "uview"))))
  | (with_reducible refine wt_test ?_)
  | ((with_reducible refine' uT ?h ?_); (case h => exact rfl))
  | ((with_reducible refine' uF ?h ?_); (case h => exact rfl))
  | with_reducible refine wi_str ?_
  | with_reducible refine we_din ?_
  | with_reducible refine we_dnotin ?_
  | with_reducible refine we_dget ?_
  | with_reducible refine we_dget2 ?_
  | with_reducible refine ws_dput ?_
  | ((with_reducible show WE _ _ (tFld _ _ _) _ _ _); refine we_fld ?_)
  | with_reducible refine we_meth ?_
  | with_reducible refine we_make ?_
  | ((with_reducible show WS _ _ (sFld _ _ _ _) _ _); refine ws_fld ?_)
  | with_reducible refine we_and ?_
  | with_reducible refine we_or ?_
  | with_reducible refine we_not ?_
  | with_reducible refine wo_any ?_
  | with_reducible refine we_raw ?_
  | (with_reducible refine ⟨_, rfl, ?_⟩)
  | ((with_reducible refine' put_dt ?h ?_); (case h => first | exact rfl | assumption); walk_at "unorm")
  | ((with_reducible refine' put_new ?h ?_); (case h => first | exact rfl | assumption); walk_at "unorm")
  | ((with_reducible refine' rt_dt ?_); refine ⟨trivial, ?_⟩)
  | ((with_reducible refine' rt_new ?_); refine ⟨trivial, ?_⟩)
  | ((with_reducible refine' rt_own ?h ?_); (case h => exact rfl); refine ⟨trivial, ?_⟩)
  | ((with_reducible refine' ws_setL ?_))
  | refine ⟨_, _, frzC_ok rfl, ⟨_, _, rfl, rfl⟩, ?_⟩
  | refine ⟨_, _, frzC_ok rfl, Nat.le_of_ble_eq_true rfl, ?_⟩
  | (refine ⟨_, _, _, _, rfl, rfl, rfl, rfl, ?_⟩; walk_at "unorm")
  | with_reducible refine wt_b ?_
  | with_reducible refine we_sl ?_
  | with_reducible refine wo_none ?_
  | ((with_reducible refine wo_some ?_); done)
  | with_reducible refine wo_some ?_
  | with_reducible refine ws_for 40 ?_
  | with_reducible refine wi_range1 ?_
  | with_reducible refine wi_range2 ?_
  | ((with_reducible show WI _ _ (iList _ _) _ _ _); refine wi_list ?_)
  | ((with_reducible show WI _ _ (iTup _ _) _ _ _); refine wi_tup ?_)
  | with_reducible refine we_lc ?_
  | with_reducible refine ws_asg (n := 40) ?_
  | with_reducible refine ws_break ?_
  | with_reducible refine ws_cont ?_
  | with_reducible refine ws_retN ?_
  | ((with_reducible refine' wg_name ?h ?m ?_); (case h => first | exact rfl | assumption); (case m => decide); walk_at "unorm")
  | ((with_reducible refine wg_tup ?_); refine ⟨_, rfl, rfl, ?_⟩)
  | with_reducible refine wgs_cons ?_
  | with_reducible refine wgs_nil ?_
  | with_reducible refine wt_and ?_
  | with_reducible refine wt_or ?_
  | with_reducible refine wt_not ?_
  | with_reducible refine wt_yes ?_
  | with_reducible refine wa_cons ?_
  | with_reducible refine wa_nil ?_
  | with_reducible refine we_int ?_
  | with_reducible refine we_str ?_
  | with_reducible refine we_bl ?_
  | with_reducible refine we_non ?_
  | with_reducible refine we_ty ?_
  | with_reducible refine we_un ?_
  | refine ⟨_, _, rfl, fun _ => .int _, ?_⟩
  | ((with_reducible refine' we_val ?h ?_); (case h => exact rfl))
  | ((with_reducible refine' we_own ?h ?_); (case h => exact rfl))
  | ((with_reducible refine' we_bor ?h ?_); (case h => exact rfl)))
set_option hygiene false in
local macro_rules | `(tactic| walk_at "ucl") => `(tactic| (clear qq xx Q' X'; walk_at "unorm"))

def BagU (d : U) (n : Int) : Prop := ∃ x y z : Int, d = .lst [.int x, .int y, .int z] ∧ 0 ≤ x ∧ 0 ≤ y ∧ y ≤ 2000000000 ∧ 0 ≤ z ∧ z ≤ n
def r_take : RU := fun ρ Q _ => ∃ (b : U) (m n : Int), ρ = [.bor b, .val (.int m)] ∧ BagU b n ∧ n ≤ 1000000000 ∧ 0 < m ∧ m < 2 ^ 200 ∧
  ∀ (d : Int) (b' : U), 0 ≤ d → d < m → BagU b' (n + 1) → Q (.dt (.int d)) [.bor b', .val (.int m)]
section
variable {P : Program} {w : World} {K : PySem.W.Frag} {mg : Str → Option Value} {base : Heap}
theorem ok_law_take (T : Txt K mg) : FnOk P w K mg base CX0 1 T.f_law_take T.fd_law_take ["bag", "many"] (spU K r_take) := by
  refine Fun_okU T.F_law_take sc_law_take (fun ρ Q X h => ?_) (fun cdv A outer s H E hr => ⟨_, (pss_cons (ps_if (pt_cmpR op_gt (pe_ix ix_list (pv 0) pe_int (fun _ _ => rfl)) pe_int (nomark _)) (pss_cons (ps_set (i := 2) sc_law_take.nd rfl (.inl rfl) (pe_op op_modN (pe_callTy call_int1 (by rfl) T.m_int (by decide +kernel) (pa_cons (pe_ix ix_list (pv 0) pe_int (fun _ _ => rfl)) pa_nil)) (pv 1)))
        (pss_cons (ps_asg (pe_op op_fdivW (pe_ix ix_list (pv 0) pe_int (fun _ _ => rfl)) (pv 1)) (pg_sub (pv 0) pe_int set_list))
        (pss_one (ps_ret (pv 2))))) pss_nil)
        (pss_cons (ps_asg (pe_op op_add (pe_ix ix_list (pv 0) pe_int (fun _ _ => rfl)) pe_int) (pg_sub (pv 0) pe_int set_list))
        (pss_cons (ps_set (i := 3) sc_law_take.nd rfl (.inl rfl) (pe_op op_modN (pe_callTy call_int1 (by rfl) T.m_int (by decide +kernel) (pa_cons (pe_op op_mul (pe_op op_add (pe_ix ix_list (pv 0) pe_int (fun _ _ => rfl)) (pe_op op_mul pe_int (pe_ix ix_list (pv 0) pe_int (fun _ _ => rfl)))) (pe_op op_add (pe_ix ix_list (pv 0) pe_int (fun _ _ => rfl)) pe_int)) pa_nil)) pe_int))
        (pss_one (ps_ret (pe_op op_modN (pe_callTy call_int1 (by rfl) T.m_int (by decide +kernel) (pa_cons (pe_op op_fdivN (pe_op op_modN (pe_callTy call_int1 (by rfl) T.m_int (by decide +kernel) (pa_cons (pe_op op_pow (pe_op op_add (pv 3) (pe_op op_mul pe_int (pe_ix ix_list (pv 0) pe_int (fun _ _ => rfl)))) pe_int) pa_nil)) pe_int) pe_int) pa_nil)) (pv 1))))))), ?_⟩)
  · obtain ⟨b, m, n, rfl, _⟩ := h
    rfl
  rintro W ρ Qd Xd ⟨b, m, n, rfl, ⟨x, y, z, rfl, x0, y0, y1, z0, z1⟩, hn, m0, m1, q⟩
  show WS K _ _ [.bor _, .val _, .un, .un] _
  repeat (walk_at "u")
  refine ite2 (fun e => ?_) (fun e => ?_)
  · have e0 : 0 < x := of_decide_eq_true e
    repeat (walk_at "u")
    exact q _ _ (Int.fmod_nonneg_of_pos _ m0) (Int.fmod_lt_of_pos _ m0) ⟨x / m, y, z, rfl, Int.ediv_nonneg x0 (by omega), y0, y1, z0, by omega⟩
  · have f1 : 0 ≤ ((y + 40009 * (z + 1)) * (y + 7919)).fmod 2147483647 := Int.fmod_nonneg_of_pos _ (by decide)
    have f2 : ((y + 40009 * (z + 1)) * (y + 7919)).fmod 2147483647 < 2147483647 := Int.fmod_lt_of_pos _ (by decide)
    repeat (walk_at "u")
    exact q _ _ (Int.fmod_nonneg_of_pos _ m0) (Int.fmod_lt_of_pos _ m0) ⟨x, y, z + 1, rfl, x0, y0, y1, by omega, by omega⟩
theorem atI_of {α : Type} {xs : List α} {d : Int} (h0 : 0 ≤ d) (h1 : d < (xs.length : Int)) : ∃ v, v ∈ xs ∧ atI xs d = some v := by
  obtain ⟨k, rfl⟩ := Int.eq_ofNat_of_zero_le h0
  have hk : k < xs.length := by omega
  exact ⟨xs[k], List.getElem_mem hk, atI_nat (List.getElem?_eq_getElem hk)⟩
/-- one of some: of a list, or a letter of a text -/
def r_of : RU := fun ρ Q _ => ∃ (b : U) (sl : Sl) (n : Int), ρ = [.bor b, sl] ∧ BagU b n ∧ n ≤ 1000000000 ∧
  ((∃ ds, (sl = .val (.lst ds) ∨ sl = .bor (.lst ds)) ∧ 0 < ds.length ∧ ds.length ≤ 100000 ∧ ∀ (d b' : U), d ∈ ds → BagU b' (n + 1) → Q (.dt d) [.bor b', sl]) ∨
    (∃ z : Str, sl = .val (.str z) ∧ 0 < z.length ∧ z.length ≤ 1000 ∧ ∀ (c : Nat) (b' : U), c ∈ z.cps.toList → BagU b' (n + 1) → Q (.dt (.str ⟨#[c]⟩)) [.bor b', sl]))
theorem ok_law_of (T : Txt K mg) : FnOk P w K mg base CX0 2 T.f_law_of T.fd_law_of ["bag", "some"] (spU K r_of) := by
  have G_law_take := ok_law_take (P := P) (w := w) (base := base) T
  refine Fun_okU T.F_law_of sc_law_of (fun ρ Q X h => ?_) (fun cdv A outer s H E hr => ⟨_, (pss_one (ps_ret (pe_ix ix_seq (pv 1) (pe_call G_law_take hr (by rfl) T.g_law_take T.F_law_take.kp T.b_law_take .nil pass0 (pa_cons (pv 0) (pa_cons (pe_callB call_len (by rfl) T.m_len (by decide +kernel) (pa_cons (pv 1) pa_nil)) pa_nil))) (fun _ _ => rfl)))), ?_⟩)
  · obtain ⟨b, m, n, rfl, _⟩ := h
    rfl
  rintro W ρ Qd Xd ⟨b, sl, n, rfl, hb, hn, q⟩
  rcases q with ⟨ds, h, l0, l1, q⟩ | ⟨z, rfl, l0, l1, q⟩
  · rcases h with rfl | rfl
    · show WS K _ _ [.bor _, .val _] _
      repeat (walk_at "u")
      refine callU [true, true] rfl rfl fun Q' X' qq xx => ⟨b, _, n, rfl, hb, hn, by omega, by omega, fun d b' d0 d1 hb' => qq _ _ ?_⟩
      walk_at "ucl"
      obtain ⟨v, hv, ha⟩ := atI_of d0 d1
      refine wr_ix (.inl (wr_ixL rfl ha ?_))
      repeat (walk_at "u")
      exact q _ _ hv hb'
    · show WS K _ _ [.bor _, .bor _] _
      repeat (walk_at "u")
      refine callU [true, true] rfl rfl fun Q' X' qq xx => ⟨b, _, n, rfl, hb, hn, by omega, by omega, fun d b' d0 d1 hb' => qq _ _ ?_⟩
      walk_at "ucl"
      obtain ⟨v, hv, ha⟩ := atI_of d0 d1
      refine wr_ix (.inl (wr_ixL ⟨_, rfl, .inr rfl⟩ ha ?_))
      repeat (walk_at "u")
      exact q _ _ hv hb'
  · show WS K _ _ [.bor _, .val _] _
    repeat (walk_at "u")
    refine callU [true, true] rfl rfl fun Q' X' qq xx => ⟨b, _, n, rfl, hb, hn, by omega, by omega, fun d b' d0 d1 hb' => qq _ _ ?_⟩
    walk_at "ucl"
    obtain ⟨v, hv, ha⟩ := atI_of (xs := z.cps.toList) d0 (by rw [Array.length_toList]; exact d1)
    refine wr_ix (.inr (.inr (wr_ixS (by omega) ha ?_)))
    repeat (walk_at "u")
    exact q _ _ hv hb'
/-- names of classes -/
def IsClass (z : Str) : Prop := ∃ c cs, z.cps.toList = c :: cs ∧ cs.length ≤ 11 ∧ isUp c = true ∧ cs.all (fun x => isUp x || isLow x) = true
def r_class : RU := fun ρ Q _ => ∃ (b : U) (n : Int), ρ = [.bor b] ∧ BagU b n ∧ n ≤ 900000000 ∧ ∀ (z : Str) (b' : U), IsClass z → BagU b' (n + 20) → Q (.dt (.str z)) [.bor b']
theorem BagU.mono {b : U} {n m : Int} (h : BagU b n) (l : n ≤ m) : BagU b m := by
  obtain ⟨x, y, z, e, r1, r2, r3, r4, r5⟩ := h
  exact ⟨x, y, z, e, r1, r2, r3, r4, by omega⟩
theorem ok_law_class (T : Txt K mg) : FnOk P w K mg base CX0 3 T.f_law_class T.fd_law_class ["bag"] (spU K r_class) := by
  have G_law_take := ok_law_take (P := P) (w := w) (base := base) T
  have G_law_of := ok_law_of (P := P) (w := w) (base := base) T
  refine Fun_okU T.F_law_class sc_law_class (fun ρ Q X h => ?_) (fun cdv A outer s H E hr => ⟨_, (pss_cons (ps_set (i := 1) sc_law_class.nd rfl (.inl rfl) pe_str)
        (pss_cons (ps_set (i := 2) sc_law_class.nd rfl (.inl rfl) (pe_call G_law_of hr (by rfl) T.g_law_of T.F_law_of.kp T.b_law_of .nil pass0 (pa_cons (pv 0) (pa_cons (pe_slice sl_str (pv 1) (po_some pe_int) po_none) pa_nil))))
        (pss_cons (ps_for PassesOwn.never rfl (pi_range1 (by rfl) T.m_range (pa_cons (pe_call G_law_take (hr.mono (by omega)) (by rfl) T.g_law_take T.F_law_take.kp T.b_law_take .nil pass0 (pa_cons (pv 0) (pa_cons pe_int pa_nil))) pa_nil)) (pg_name (i := 3) sc_law_class.nd rfl (.inl rfl)) (pss_one (ps_set (i := 2) sc_law_class.nd rfl (.inl rfl) (pe_op op_add_str (pv 2) (pe_call G_law_of hr (by rfl) T.g_law_of T.F_law_of.kp T.b_law_of .nil pass0 (pa_cons (pv 0) (pa_cons (pv 1) pa_nil)))))))
        (pss_one (ps_ret (pv 2)))))), ?_⟩)
  · obtain ⟨b, n, rfl, _⟩ := h
    rfl
  rintro W ρ Qd Xd ⟨b, n, rfl, hb, hn, q⟩
  show WS K _ _ [.bor _, .un, .un, .un] _
  repeat (walk_at "u")
  refine sl_S (by decide +kernel) ?_
  repeat (walk_at "u")
  refine callU [true, true] rfl rfl fun Q' X' qq xx => ⟨b, _, n, rfl, hb, by omega, .inr ⟨_, rfl, by decide +kernel, by decide +kernel, fun c b1 hc hb1 => qq _ _ ?_⟩⟩
  have hup : isUp c = true := (by decide +kernel : ∀ c ∈ (cutS (Str.ofString "abcdefghijklmnopqrstuvwxyzABCDEFGHIJKLMNOPQRSTUVWXYZ") (some 26) none).cps.toList, isUp c = true) c hc
  walk_at "ucl"
  repeat (walk_at "u")
  refine callU [true, true] rfl rfl fun Q' X' qq xx => ⟨b1, _, _, rfl, hb1, by omega, by decide, by decide, fun d b2 d0 d1 hb2 => qq _ _ ?_⟩
  walk_at "ucl"
  repeat (walk_at "u")
  refine ⟨by omega, fun i ρ => ∃ (z : Str) (bi : U) (t : Sl) (cs : List Nat), ρ = [.bor bi, .val (.str (Str.ofString "abcdefghijklmnopqrstuvwxyzABCDEFGHIJKLMNOPQRSTUVWXYZ")), .val (.str z), t] ∧ nb [t] 0 = true ∧
    z.cps.toList = c :: cs ∧ cs.length = i ∧ cs.all (fun x => isUp x || isLow x) = true ∧ BagU bi (n + 2 + i), ?_, ?_, ?_⟩
  · exact ⟨_, b2, .un, [], rfl, rfl, rfl, rfl, rfl, hb2.mono (by omega)⟩
  · rintro i x ρ hx ⟨z, bi, t, cs, rfl, ht, ez, el, ec, hB⟩
    obtain ⟨hi, rfl⟩ := rgU_get hx
    repeat (walk_at "u")
    refine callU [true, true] rfl rfl fun Q' X' qq xx => ⟨bi, _, _, rfl, hB, by omega, .inr ⟨_, rfl, by decide +kernel, by decide +kernel, fun c2 b3 hc2 hb3 => qq _ _ ?_⟩⟩
    walk_at "ucl"
    have hl2 : (isUp c2 || isLow c2) = true := (by decide +kernel : ∀ c ∈ (Str.ofString "abcdefghijklmnopqrstuvwxyzABCDEFGHIJKLMNOPQRSTUVWXYZ").cps.toList, (isUp c || isLow c) = true) c2 hc2
    have hz : z.length = i + 1 := by
      show z.cps.size = i + 1
      rw [← Array.length_toList, ez, List.length_cons, el]
    refine wr_cat_str (by show z.length + 1 ≤ _; omega) ?_
    repeat (walk_at "u")
    refine ⟨z ++ ⟨#[c2]⟩, b3, _, cs ++ [c2], rfl, rfl, ?_, ?_, ?_, hb3.mono (by omega)⟩
    · show (z.cps ++ #[c2]).toList = _
      rw [Array.toList_append, ez]
      rfl
    · rw [List.length_append, el]
      rfl
    · rw [List.all_append, ec]
      simp only [List.all_cons, hl2, List.all_nil, Bool.and_true]
  · rintro ρ ⟨z, bi, t, cs, rfl, ht, ez, el, ec, hB⟩
    rw [rgU_length] at el hB
    repeat (walk_at "u")
    exact q z _ ⟨c, cs, ez, by omega, hup, ec⟩ (hB.mono (by omega))
end

/-! ### words, any values -/
def r_word : RU := fun ρ Q _ => ∃ (b : U) (m : Nat) (n : Int), ρ = [.bor b, .val (.int (m : Nat))] ∧ BagU b n ∧ n ≤ 800000000 ∧ m ≤ 60 ∧
  ∀ (z : Str) (b' : U), z.length ≤ m → z.cps.toList.all isLow = true → BagU b' (n + 100) → Q (.dt (.str z)) [.bor b', .val (.int (m : Nat))]
section
variable {P : Program} {w : World} {K : PySem.W.Frag} {mg : Str → Option Value} {base : Heap}
theorem uk_word (T : Txt K mg) : FnOk P w K mg base CX0 3 T.f_law_word T.fd_law_word ["bag", "most"] (spU K r_word) := by
  have G_law_take := ok_law_take (P := P) (w := w) (base := base) T
  have G_law_of := ok_law_of (P := P) (w := w) (base := base) T
  refine Fun_okU T.F_law_word sc_law_word (fun ρ Q X h => ?_) (fun cdv A outer s H E hr => ⟨_, (pss_one (ps_ret (pe_join pe_str (pe_lc (own := [("turn", 2)]) (g := gName 2) rfl sc_law_word.nd (pi_range1 (by rfl) T.m_range (pa_cons (pe_call G_law_take (hr.mono (by omega)) (by rfl) T.g_law_take T.F_law_take.kp T.b_law_take .nil pass0 (pa_cons (pv 0) (pa_cons (pe_op op_add (pv 1) pe_int) pa_nil))) pa_nil)) (blkOk_by (own := [("turn", 2)]) (N := ["bag", "most", "turn"]) (sc := defScope s_law_word) (by decide +kernel)) (fun _ _ _ _ _ => pg_name (i := 2) sc_law_word.nd rfl (.inl rfl)) (fun _ _ _ _ _ => pts_nil) (fun _ _ _ _ _ => (pe_call G_law_of hr (by rfl) T.g_law_of T.F_law_of.kp T.b_law_of .nil pass0 (pa_cons (pv 0) (pa_cons pe_str pa_nil)))))))), ?_⟩)
  · obtain ⟨b, m, n, rfl, _⟩ := h
    rfl
  rintro W ρ Qd Xd ⟨b, m, n, rfl, hb, hn, hm, q⟩
  show WS K _ _ [.bor _, .val _, .un] _
  refine ws_ret (we_join (we_str ⟨_, rfl, ?_⟩))
  repeat (walk_at "u")
  refine callU [true, true] rfl rfl fun Q' X' qq xx => ⟨b, _, _, rfl, hb, by omega, by omega, Int.lt_of_le_of_lt (show _ ≤ (61 : Int) by omega) (by decide), fun d b1 d0 d1 hb1 => qq _ _ ?_⟩
  walk_at "ucl"
  repeat (walk_at "u")
  refine ⟨by omega, rfl, fun k acc ρ => ∃ (bi : U) (zs : List Str), ρ = [.bor bi, .val (.int (m : Nat)), .un] ∧ acc = zs.map .str ∧ (∀ z ∈ zs, ∃ c, z = ⟨#[c]⟩ ∧ isLow c = true) ∧ zs.length = k ∧ BagU bi (n + 1 + k), ?_, ?_, ?_⟩
  · exact ⟨b1, [], rfl, rfl, nofun, rfl, hb1.mono (by omega)⟩
  · rintro k x acc ρ hx hl ⟨bi, zs, rfl, rfl, hz, hk, hB⟩
    obtain ⟨hk2, hxe⟩ := rgU_get hx
    repeat (walk_at "u")
    refine callU [true, true] rfl rfl fun Q' X' qq xx => ⟨bi, _, _, rfl, hB, by omega, .inr ⟨_, rfl, by decide +kernel, by decide +kernel, fun c b2 hc hb2 => qq _ _ ?_⟩⟩
    have hlow : isLow c = true := (by decide +kernel : ∀ c ∈ (Str.ofString "abcdefghijklmnopqrstuvwxyz").cps.toList, isLow c = true) c hc
    walk_at "ucl"
    refine ⟨_, _, frzC_ok rfl, by omega, rfl, b2, zs ++ [⟨#[c]⟩], rfl, ?_, ?_, ?_, hb2.mono (by omega)⟩
    · rw [List.map_append]
      rfl
    · intro z hm2
      rcases List.mem_append.mp hm2 with h | h
      · exact hz z h
      · rw [List.mem_singleton.mp h]
        exact ⟨c, rfl, hlow⟩
    · rw [List.length_append, hk]
      rfl
  · rintro acc ρ hl ⟨bi, zs, rfl, rfl, hz, hk, hB⟩
    rw [rgU_length] at hk hB
    have one : (zs.map (·.length)).sum = zs.length := by
      clear hl hk hB
      induction zs with
      | nil => rfl
      | cons z r ih =>
        obtain ⟨c, rfl, _⟩ := hz z List.mem_cons_self
        rw [List.map_cons, List.sum_cons, List.length_cons, ih fun y hy => hz y (List.mem_cons_of_mem _ hy)]
        exact Nat.add_comm _ _
    refine ⟨zs, rfl, ?_, ?_⟩
    · rw [one, show (Str.ofString "").length = 0 from rfl]
      omega
    · obtain ⟨w1, w2⟩ := joined_word (ys := zs) (m := m) (by omega) hz
      exact ⟨trivial, q _ _ w1 w2 (hB.mono (by omega))⟩
end

/-! ### the draws -/
/-- the bag of draws at b: its last number is at most n -/
def Bag (H : Hp) (b : Addr) (n : Int) : Prop := ∃ x y z : Int, H b = some (.lst [.int x, .int y, .int z]) ∧ 0 ≤ x ∧ 0 ≤ y ∧ y ≤ 2000000000 ∧ 0 ≤ z ∧ z ≤ n
/-- all that was tracked stands as it stood, but what stands at b -/
def Keep (b : Addr) (H H' : Hp) : Prop := ∀ q o, q ≠ b → H q = some o → H' q = some o
theorem Keep.refl (b : Addr) (H : Hp) : Keep b H H := fun _ _ _ h => h
theorem Keep.trans {b : Addr} {H H1 H2 : Hp} (x : Keep b H H1) (y : Keep b H1 H2) : Keep b H H2 := fun q o n h => y q o n (x q o n h)
theorem Keep.upd (b : Addr) (H : Hp) (o : HO) : Keep b H (upd H b o) := fun q u n h => by rw [upd_ne n]; exact h
theorem Keep.new {b p : Addr} {H : Hp} {o : HO} (hp : H p = none) : Keep b H (L2.upd H p o) := fun q u _ h => by
  rw [upd_ne (ne_of_none h hp)]
  exact h
theorem Bag.new {b p : Addr} {H : Hp} {o : HO} {n : Int} (h : Bag H b n) (hp : H p = none) : Bag (L2.upd H p o) b n := by
  obtain ⟨x, y, z, e, r⟩ := h
  exact ⟨x, y, z, by rw [upd_ne (ne_of_none e hp)]; exact e, r⟩
theorem Bag.mono {b : Addr} {H : Hp} {n m : Int} (h : Bag H b n) (l : n ≤ m) : Bag H b m := by
  obtain ⟨x, y, z, e, r1, r2, r3, r4, r5⟩ := h
  exact ⟨x, y, z, e, r1, r2, r3, r4, by omega⟩
theorem Bag.ne {b p : Addr} {H : Hp} {n : Int} (h : Bag H b n) (hp : H p = none) : b ≠ p := by
  obtain ⟨x, y, z, e, _⟩ := h
  exact ne_of_none e hp
theorem same_new {H : Hp} {p : Addr} {o : HO} (h : H p = none) : Same H (upd H p o) := fun b x e => by
  rw [upd_ne (ne_of_none e h)]
  exact e

/-! ### any values -/
theorem op_mul_str {X : Cx} : OpR X (binaryOp .Mult) (fun x y H Q => ∃ z n, x = .str z ∧ y = .int n ∧ MulOk z n ∧ Q (.str (Txt.mul z n)) H) := by
  intro pins s σ H x y v u Q I rx ry h
  obtain ⟨i, j, rfl, rfl, hz, q⟩ := h
  obtain ⟨t, rfl⟩ := rx
  obtain ⟨t', rfl⟩ := ry
  exact PySem.SB.mul hz fun t' tk => ⟨.str _, H, I.tok _, ⟨_, rfl⟩, q⟩
/-- what was not tracked in H -/
def since (H H' : Hp) : Hp := fun q => match H q with | none => H' q | some _ => none
theorem since_some {H H' : Hp} {q : Addr} {o : HO} (h : since H H' q = some o) : H q = none ∧ H' q = some o := by
  unfold since at h
  cases e : H q with
  | none => rw [e] at h; exact ⟨rfl, h⟩
  | some _ => rw [e] at h; cases h
theorem since_of {H H' : Hp} {q : Addr} {o : HO} (h : H q = none) (h' : H' q = some o) : since H H' q = some o := by
  unfold since
  rw [h]
  exact h'
theorem since_same {H H' : Hp} : Same (since H H') H' := fun _ _ h => (since_some h).2
/-- every place that H tracks is tracked in H' -/
def Dom (H H' : Hp) : Prop := ∀ q o, H q = some o → ∃ o', H' q = some o'
theorem Dom.refl (H : Hp) : Dom H H := fun _ o h => ⟨o, h⟩
theorem Dom.trans {H H1 H2 : Hp} (x : Dom H H1) (y : Dom H1 H2) : Dom H H2 := fun q o h => by
  obtain ⟨o', h'⟩ := x q o h
  exact y q o' h'
theorem Same.dom {H H' : Hp} (s : Same H H') : Dom H H' := fun q o h => ⟨o, s q o h⟩
theorem Keep.dom {b : Addr} {H H' : Hp} (k : Keep b H H') (h : ∃ o, H' b = some o) : Dom H H' := fun q o e => by
  by_cases n : q = b
  · rw [n]; exact h
  · exact ⟨o, k q o n e⟩
theorem Dom.free {H H' : Hp} (d : Dom H H') {q : Addr} (h : H' q = none) : H q = none := by
  cases e : H q with
  | none => rfl
  | some o =>
    obtain ⟨o', e'⟩ := d q o e
    rw [h] at e'
    cases e'
theorem since_mono {H0 H H' H'' : Hp} {b : Addr} (d : Dom H0 H) (hb : ∃ o, H b = some o) (k : Keep b H' H'') : Same (since H H') (since H0 H'') := fun q o h => by
  obtain ⟨h1, h2⟩ := since_some h
  have n : q ≠ b := fun e => by
    obtain ⟨o', e'⟩ := hb
    rw [e, e'] at h1
    cases h1
  exact since_of (d.free h1) (k q o n h2)
theorem since_mono0 {H0 H H' H'' : Hp} (d : Dom H0 H) (k : Same H' H'') : Same (since H H') (since H0 H'') := fun q o h => by
  obtain ⟨h1, h2⟩ := since_some h
  exact since_of (d.free h1) (k q o h2)
theorem SqL.same {K : PySem.W.Frag} {H H' : Hp} {a : Addr} {xs : List V} (s : Same H H') (h : SqL K H a xs) : SqL K H' a xs := s.seq h
theorem SqT.same {K : PySem.W.Frag} {H H' : Hp} {a : Addr} {xs : List V} (s : Same H H') (h : SqT K H a xs) : SqT K H' a xs := by
  rcases h with (h | ⟨o, h⟩) | h
  · exact .inl (.inl (s _ _ h))
  · exact .inl (.inr ⟨o, s _ _ h⟩)
  · exact .inr h
mutual
theorem Dp.same {K : PySem.W.Frag} {H H' : Hp} (s : Same H H') : ∀ (d : PyData) (v : V), Dp K H v d → Dp K H' v d
  | .none, _, h => by cases h; exact .non
  | .bool _, _, h => by cases h; exact .bl _
  | .int _, _, h => by cases h; exact .int _
  | .str _, _, h => by cases h; exact .str _
  | .list ds, _, h => by
    cases h with
    | lst hs ha => exact .lst (SqL.same s hs) (DpAll.same s ds _ ha)
  | .tuple ds, _, h => by
    cases h with
    | tup hs ha => exact .tup (SqT.same s hs) (DpAll.same s ds _ ha)
  | .dict _, _, h => by cases h
theorem DpAll.same {K : PySem.W.Frag} {H H' : Hp} (s : Same H H') : ∀ (ds : List PyData) (vs : List V), DpAll K H vs ds → DpAll K H' vs ds
  | [], _, h => by cases h; exact .nil
  | d :: r, _, h => by
    cases h with
    | cons h1 h2 => exact .cons (Dp.same s d _ h1) (DpAll.same s r _ h2)
end
theorem DpAll.snoc {K : PySem.W.Frag} {H : Hp} : ∀ {vs : List V} {ds : List PyData} {v : V} {d : PyData}, DpAll K H vs ds → Dp K H v d → DpAll K H (vs ++ [v]) (ds ++ [d])
  | _, _, _, _, .nil, h => .cons h .nil
  | _, _, _, _, .cons a b, h => .cons a (DpAll.snoc b h)
theorem DpAll.length {K : PySem.W.Frag} {H : Hp} : ∀ {vs : List V} {ds : List PyData}, DpAll K H vs ds → vs.length = ds.length
  | _, _, .nil => rfl
  | _, _, .cons _ b => by rw [List.length_cons, List.length_cons, DpAll.length b]
theorem DpAll.append {K : PySem.W.Frag} {H : Hp} : ∀ {vs ws : List V} {ds es : List PyData}, DpAll K H vs ds → DpAll K H ws es → DpAll K H (vs ++ ws) (ds ++ es)
  | _, _, _, _, .nil, h => h
  | _, _, _, _, .cons a b, h => .cons a (DpAll.append b h)
theorem DpAll.get {K : PySem.W.Frag} {H : Hp} : ∀ {vs : List V} {ds : List PyData} {i : Nat} {v : V}, DpAll K H vs ds → vs[i]? = some v → ∃ d, ds[i]? = some d ∧ Dp K H v d
  | _, _, _, _, .nil, h => by simp at h
  | _, _, 0, _, .cons a _, h => by
    simp at h
    subst h
    exact ⟨_, rfl, a⟩
  | _, _, i + 1, _, .cons _ b, h => by
    obtain ⟨d, h1, h2⟩ := DpAll.get (i := i) b (by simpa using h)
    exact ⟨d, by simpa using h1, h2⟩
theorem DpAll.mem {K : PySem.W.Frag} {H : Hp} : ∀ {vs : List V} {ds : List PyData} {v : V}, DpAll K H vs ds → v ∈ vs → ∃ d, d ∈ ds ∧ Dp K H v d
  | _, _, _, .nil, h => by cases h
  | _, _, v, .cons a b, h => by
    rcases List.mem_cons.mp h with e | e
    · subst e
      exact ⟨_, List.mem_cons_self, a⟩
    · obtain ⟨d, h1, h2⟩ := DpAll.mem b e
      exact ⟨d, List.mem_cons_of_mem _ h1, h2⟩
mutual
/-- texts of at most a hundred thousand signs, lists of at most a thousand, no dict -/
def fine : PyData → Bool
  | .str z => decide (z.length ≤ 100000) && PyData.strOk z
  | .list ds => decide (ds.length ≤ 1000) && fineAll ds
  | .tuple ds => decide (ds.length ≤ 1000) && fineAll ds
  | .dict _ => false
  | .none => true
  | .bool _ => true
  | .int _ => true
def fineAll : List PyData → Bool
  | [] => true
  | d :: r => fine d && fineAll r
end
theorem fineAll_mem : ∀ {ds : List PyData} {d : PyData}, fineAll ds = true → d ∈ ds → fine d = true
  | [], _, _, h => by cases h
  | e :: r, d, h, m => by
    unfold fineAll at h
    rw [Bool.and_eq_true] at h
    rcases List.mem_cons.mp m with q | q
    · rw [q]; exact h.1
    · exact fineAll_mem h.2 q
theorem fineAll_snoc : ∀ {ds : List PyData} {d : PyData}, fineAll ds = true → fine d = true → fineAll (ds ++ [d]) = true
  | [], d, _, h => by show (fine d && true) = true; rw [h]; rfl
  | e :: r, d, h, m => by
    unfold fineAll at h
    rw [Bool.and_eq_true] at h
    show (fine e && fineAll (r ++ [d])) = true
    rw [h.1, fineAll_snoc h.2 m]
    rfl
theorem depthAll_snoc : ∀ {ds : List PyData} {d : PyData} {n : Nat}, PyData.depthAll ds ≤ n → PyData.depth d ≤ n → PyData.depthAll (ds ++ [d]) ≤ n
  | [], d, n, _, h => by
    show max (PyData.depth d) 0 ≤ n
    omega
  | e :: r, d, n, h, m => by
    have h' : max (PyData.depth e) (PyData.depthAll r) ≤ n := h
    have := depthAll_snoc (ds := r) (n := n) (by omega) m
    show max (PyData.depth e) (PyData.depthAll (r ++ [d])) ≤ n
    omega
mutual
theorem canLay_fine : ∀ (d : PyData), fine d = true → PyData.canLay0 d = true
  | .none, _ => rfl
  | .bool _, _ => rfl
  | .int _, _ => rfl
  | .str z, h => by
    unfold fine at h
    rw [Bool.and_eq_true] at h
    exact h.2
  | .list ds, h => by
    unfold fine at h
    rw [Bool.and_eq_true] at h
    exact canLayAll_fine ds h.2
  | .tuple ds, h => by
    unfold fine at h
    rw [Bool.and_eq_true] at h
    exact canLayAll_fine ds h.2
  | .dict _, h => by cases h
theorem canLayAll_fine : ∀ (ds : List PyData), fineAll ds = true → PyData.canLayAll0 ds = true
  | [], _ => rfl
  | d :: r, h => by
    unfold fineAll at h
    rw [Bool.and_eq_true] at h
    show (PyData.canLay0 d && PyData.canLayAll0 r) = true
    rw [canLay_fine d h.1, canLayAll_fine r h.2]
    rfl
end
theorem shaped_fine {d : PyData} (h : fine d = true) (hd : PyData.depth d ≤ 64) : SeqAt.shaped d = true := by
  unfold SeqAt.shaped
  rw [canLay_fine d h, decide_eq_true hd]
  rfl
theorem since_step {Hd H' H3 H4 : Hp} {D b : Addr} (d : Dom Hd H') (hb : ∃ o, Hd b = some o) (hD : ∃ o, Hd D = some o) (k : Keep b H' H3) (h4 : ∀ q, q ≠ D → H4 q = H3 q) : Same (since Hd H') (since Hd H4) ∧ Same (since H' H3) (since Hd H4) := by
  have nn : ∀ {q : Addr} {p : Addr}, Hd q = none → (∃ o, Hd p = some o) → q ≠ p := fun {q p} h1 h2 e => by
    obtain ⟨o, h2⟩ := h2
    rw [e, h2] at h1
    cases h1
  refine ⟨fun q o h => ?_, fun q o h => ?_⟩
  · obtain ⟨h1, h2⟩ := since_some h
    refine since_of h1 ?_
    rw [h4 q (nn h1 hD)]
    exact k q o (nn h1 hb) h2
  · obtain ⟨h1, h2⟩ := since_some h
    have h0 := d.free h1
    refine since_of h0 ?_
    rw [h4 q (nn h0 hD)]
    exact h2
theorem Dom.upd {H : Hp} {p : Addr} {o : HO} : Dom H (L2.upd H p o) := fun q u h => by
  by_cases n : q = p
  · subst n
    exact ⟨o, upd_same⟩
  · exact ⟨u, by rw [upd_ne n]; exact h⟩
theorem Bag.has {H : Hp} {b : Addr} {n : Int} (h : Bag H b n) : ∃ o, H b = some o := by
  obtain ⟨x, y, z, e, _⟩ := h
  exact ⟨_, e⟩
theorem Bag.upd {b D : Addr} {H : Hp} {o : HO} {n : Int} (h : Bag H b n) (nb : b ≠ D) : Bag (L2.upd H D o) b n := by
  obtain ⟨x, y, z, e, r⟩ := h
  exact ⟨x, y, z, by rw [upd_ne nb]; exact e, r⟩

/-! ### data (rows of udata.in without families) -/
def plU : U → Bool
  | .str z => decide (z.length ≤ 1000)
  | d => plainU d
def plT : U → Bool
  | .tup ds => ds.all plU
  | d => plainU d
theorem strOk_low {z : Str} (h : z.cps.toList.all isLow = true) : PyData.strOk z = true := by
  unfold PyData.strOk
  rw [← Array.all_toList]
  refine List.all_eq_true.mpr fun c hc => ?_
  have h1 := List.all_eq_true.mp h c hc
  unfold isLow at h1
  have h2 := of_decide_eq_true h1
  exact decide_eq_true (by omega)
theorem fine_str {z : Str} {n : Nat} (h : PyData.strOk z = true) (l : z.length ≤ n) (hn : n ≤ 100000 := by decide) : fine (.str z) = true := by
  unfold fine
  rw [h, decide_eq_true (Nat.le_trans l hn)]
  rfl

mutual
def dU : U → PyData
  | .non => .none
  | .bl b => .bool b
  | .int i => .int i
  | .str z => .str z
  | .lst ds => .list (dUs ds)
  | .fls ds => .list (dUs ds)
  | .tup ds => .tuple (dUs ds)
  | _ => .none
def dUs : List U → List PyData
  | [] => []
  | d :: r => dU d :: dUs r
end
mutual
def okU : U → Bool
  | .non => true
  | .bl _ => true
  | .int _ => true
  | .str _ => true
  | .lst ds => okUs ds
  | .tup ds => okUs ds
  | _ => false
def okUs : List U → Bool
  | [] => true
  | d :: r => okU d && okUs r
end
mutual
theorem at_dp {K : PySem.W.Frag} {G : Hp} : ∀ (d : U) (v : V), At K G v d → okU d = true → Dp K G v (dU d)
  | .non, _, h, _ => by cases h; exact .non
  | .bl _, _, h, _ => by cases h; exact .bl _
  | .int _, _, h, _ => by cases h; exact .int _
  | .str _, _, h, _ => by cases h; exact .str _
  | .ty _, _, _, o => nomatch o
  | .raw _, _, _, o => nomatch o
  | .lst ds, _, h, o => by
    cases h with
    | lst hs ha => exact .lst (SqL.of hs) (ats_dp ds _ ha o)
  | .fls _, _, _, o => nomatch o
  | .tup ds, _, h, o => by
    cases h with
    | tup hs ha => exact .tup hs (ats_dp ds _ ha o)
  | .dic _ _, _, _, o => nomatch o
  | .dct _ _, _, _, o => nomatch o
  | .obj _ _ _, _, _, o => nomatch o
  | .exo _ _ _, _, _, o => nomatch o
theorem ats_dp {K : PySem.W.Frag} {G : Hp} : ∀ (ds : List U) (vs : List V), AtAll K G vs ds → okUs ds = true → DpAll K G vs (dUs ds)
  | [], _, h, _ => by cases h; exact .nil
  | d :: r, _, h, o => by
    have o : (okU d && okUs r) = true := o
    rw [Bool.and_eq_true] at o
    cases h with
    | cons h1 h2 => exact .cons (at_dp d _ h1 o.1) (ats_dp r _ h2 o.2)
end
/-- a small value -/
def GoodU (d : U) : Prop := okU d = true ∧ fine (dU d) = true ∧ PyData.depth (dU d) ≤ 3 ∧ plU d = true
/-- a drawn entry -/
def EntU (d : U) : Prop := okU d = true ∧ fine (dU d) = true ∧ PyData.depth (dU d) ≤ 8 ∧ plT d = true
theorem GoodU.ent {d : U} (h : GoodU d) (p : plT d = true) : EntU d := ⟨h.1, h.2.1, Nat.le_trans h.2.2.1 (by decide), p⟩
theorem good_list {x y : U} (hx : GoodU x) (hy : GoodU y) : EntU (.lst [x, y]) := by
  obtain ⟨a1, a2, a3, a4⟩ := hx
  obtain ⟨b1, b2, b3, b4⟩ := hy
  refine ⟨?_, ?_, ?_, rfl⟩
  · show (okU x && (okU y && true)) = true
    rw [a1, b1]
    rfl
  · show (decide (2 ≤ 1000) && (fine (dU x) && (fine (dU y) && true))) = true
    rw [a2, b2]
    rfl
  · show max (PyData.depth (dU x)) (max (PyData.depth (dU y)) 0) + 1 ≤ 8
    omega
theorem good_one {x : U} (hx : GoodU x) : EntU (.tup [x]) := by
  obtain ⟨a1, a2, a3, a4⟩ := hx
  refine ⟨?_, ?_, ?_, ?_⟩
  · show (okU x && true) = true
    rw [a1]
    rfl
  · show (decide (1 ≤ 1000) && (fine (dU x) && true)) = true
    rw [a2]
    rfl
  · show max (PyData.depth (dU x)) 0 + 1 ≤ 8
    omega
  · show (plU x && true) = true
    rw [a4]
    rfl
theorem good_three {x y z : U} (hx : GoodU x) (hy : GoodU y) (hz : GoodU z) : EntU (.tup [x, y, z]) := by
  obtain ⟨a1, a2, a3, a4⟩ := hx
  obtain ⟨b1, b2, b3, b4⟩ := hy
  obtain ⟨c1, c2, c3, c4⟩ := hz
  refine ⟨?_, ?_, ?_, ?_⟩
  · show (okU x && (okU y && (okU z && true))) = true
    rw [a1, b1, c1]
    rfl
  · show (decide (3 ≤ 1000) && (fine (dU x) && (fine (dU y) && (fine (dU z) && true)))) = true
    rw [a2, b2, c2]
    rfl
  · show max (PyData.depth (dU x)) (max (PyData.depth (dU y)) (max (PyData.depth (dU z)) 0)) + 1 ≤ 8
    omega
  · show (plU x && (plU y && (plU z && true))) = true
    rw [a4, b4, c4]
    rfl
def SmallS (z : Str) : Prop := z.length ≤ 40 ∧ PyData.strOk z = true
theorem SmallS.good {z : Str} (h : SmallS z) : GoodU (.str z) := by
  refine ⟨rfl, fine_str h.2 h.1, Nat.le_trans (Nat.le_of_eq (show PyData.depth (.str z) = 0 from rfl)) (by decide), decide_eq_true (by have := h.1; omega)⟩
theorem good_pair {x y : U} (hx : GoodU x) (hy : GoodU y) : EntU (.tup [x, y]) := by
  obtain ⟨a1, a2, a3, a4⟩ := hx
  obtain ⟨b1, b2, b3, b4⟩ := hy
  refine ⟨?_, ?_, ?_, ?_⟩
  · show (okU x && (okU y && true)) = true
    rw [a1, b1]
    rfl
  · show (decide (2 ≤ 1000) && (fine (dU x) && (fine (dU y) && true))) = true
    rw [a2, b2]
    rfl
  · show max (PyData.depth (dU x)) (max (PyData.depth (dU y)) 0) + 1 ≤ 8
    omega
  · show (plU x && (plU y && true)) = true
    rw [a4, b4]
    rfl
theorem isClass_small {z : Str} (h : IsClass z) : SmallS z := by
  obtain ⟨c, cs, ez, hl, hu, hc⟩ := h
  have len : z.length = cs.length + 1 := by
    show z.cps.size = _
    rw [← Array.length_toList, ez, List.length_cons]
  refine ⟨by omega, ?_⟩
  unfold PyData.strOk
  rw [← Array.all_toList, ez]
  have up : ∀ x, isUp x = true → x < 0x110000 := fun x hx => by
    unfold isUp at hx
    have := of_decide_eq_true hx
    omega
  have low : ∀ x, isLow x = true → x < 0x110000 := fun x hx => by
    unfold isLow at hx
    have := of_decide_eq_true hx
    omega
  refine List.all_eq_true.mpr fun x hx => decide_eq_true ?_
  rcases List.mem_cons.mp hx with rfl | hx
  · exact up _ hu
  · have := List.all_eq_true.mp hc x hx
    rw [Bool.or_eq_true] at this
    rcases this with h | h
    · exact up _ h
    · exact low _ h
theorem small_append {z y : Str} (h : SmallS z) (hz : z.length ≤ 20) (e : y.length ≤ 20 ∧ PyData.strOk y = true) : SmallS (z ++ y) := by
  refine ⟨?_, ?_⟩
  · show (z.cps ++ y.cps).size ≤ 40
    rw [Array.size_append]
    have h1 := hz
    have h2 := e.1
    have h1 : z.cps.size ≤ 20 := h1
    have h2 : y.cps.size ≤ 20 := h2
    omega
  · have h1 := h.2
    have h2 := e.2
    unfold PyData.strOk at h1 h2 ⊢
    show (z.cps ++ y.cps).all _ = true
    rw [Array.all_append, h1, h2]
    rfl
theorem isClass_len {z : Str} (h : IsClass z) : z.length ≤ 12 := by
  obtain ⟨c, cs, ez, hl, _⟩ := h
  show z.cps.size ≤ 12
  rw [← Array.length_toList, ez, List.length_cons]
  omega
theorem wr_mulS {K : PySem.W.Frag} {W : Wx} {X : Er → Sls → Prop} {ρ : Sls} {z : Str} {n : Int} {Q : Av → Sls → Prop} (h : MulOk z n) (q : Q (.dt (.str (Txt.mul z n))) ρ) : WR K W (fun x y H Q => ∃ z n, x = .str z ∧ y = .int n ∧ MulOk z n ∧ Q (.str (Txt.mul z n)) H) (.dt (.str z)) (.dt (.int n)) ρ Q X := by
  rintro s v w Q0 rfl D _ h1 h2 k
  rw [at_str h1, at_int h2]
  exact ⟨z, n, rfl, rfl, h, k.dt D (.str _) q⟩
theorem dUs_map : ∀ ds : List U, dUs ds = ds.map dU
  | [] => rfl
  | d :: r => congrArg (dU d :: ·) (dUs_map r)
mutual
theorem eqv_dU : ∀ d : U, PyData.eqv (dU d) (dU d) = true
  | .non => rfl
  | .bl _ => beq_self_eq_true _
  | .int _ => beq_self_eq_true _
  | .str _ => beq_self_eq_true _
  | .lst ds => eqv_dUs ds
  | .fls ds => eqv_dUs ds
  | .tup ds => eqv_dUs ds
  | .ty _ => rfl
  | .raw _ => rfl
  | .dic _ _ => rfl
  | .dct _ _ => rfl
  | .obj _ _ _ => rfl
  | .exo _ _ _ => rfl
theorem eqv_dUs : ∀ ds : List U, PyData.eqvAll (dUs ds) (dUs ds) = true
  | [] => rfl
  | d :: r => by
    show (PyData.eqv (dU d) (dU d) && PyData.eqvAll (dUs r) (dUs r)) = true
    rw [eqv_dU d, eqv_dUs r]
    rfl
end
theorem no_own {G H : Hp} {d : U} {σ : L2.St} {a : Addr} : ¬ Owns ⟨G, [.val d], σ, H⟩ a := by
  rintro ⟨i, ⟨sl, x, e1, e2⟩, _⟩
  have := List.mem_of_getElem? e1
  rw [List.mem_singleton.mp this] at e2
  cases e2

/-! ### any value -/
/-- a value, nested at most e deep, of which repr can tell -/
def AnyU (e : Nat) (d : U) : Prop := okU d = true ∧ fine (dU d) = true ∧ PyData.depth (dU d) ≤ e ∧ PyData.showable (dU d) = true ∧ (PyData.shown (dU d)).length ≤ 500 * 6 ^ e ∧ plainU d = true
theorem AnyU.up {d : U} {e f : Nat} (h : AnyU e d) (l : e ≤ f) : AnyU f d := ⟨h.1, h.2.1, Nat.le_trans h.2.2.1 l, h.2.2.2.1, Nat.le_trans h.2.2.2.2.1 (Nat.mul_le_mul_left _ (Nat.pow_le_pow_right (by decide) l)), h.2.2.2.2.2⟩
theorem any_str {z : Str} (h : SmallS z) : AnyU 0 (.str z) := by
  obtain ⟨g1, g2, g3, _⟩ := h.good
  refine ⟨rfl, g2, Nat.zero_le _, rfl, ?_, rfl⟩
  have := StrLaws.reprText_len z fun c hc => by
    have h2 := h.2
    unfold PyData.strOk at h2
    rw [← Array.all_toList] at h2
    have := of_decide_eq_true (List.all_eq_true.mp h2 c hc)
    exact Nat.lt_of_lt_of_le this (by decide)
  have h1 := h.1
  show (reprText z).length ≤ 500 * 6 ^ 0
  omega
theorem log_of {i : Int} (h : i.natAbs < 10 ^ 40) : i.natAbs.log2 < 1920 := by
  by_cases z : i.natAbs = 0
  · rw [z]
    decide
  · have h2 : i.natAbs.log2 < 140 := (Nat.log2_lt z).mpr (Nat.lt_of_lt_of_le h (by decide))
    omega
theorem any_int {i : Int} (h : i.natAbs < 10 ^ 40) : AnyU 0 (.int i) := by
  refine ⟨rfl, rfl, Nat.zero_le _, decide_eq_true (log_of h), ?_, rfl⟩
  have := int_text_length_le10 (k := 40) (by decide) h
  show (Str.ofString (toString i)).length ≤ 500 * 6 ^ 0
  rw [PySem.ofString_length]
  omega
theorem any_bl (b : Bool) : AnyU 0 (.bl b) := by
  cases b <;> exact ⟨rfl, rfl, Nat.zero_le _, rfl, by decide +kernel, rfl⟩
theorem any_non : AnyU 0 .non := ⟨rfl, rfl, Nat.zero_le _, rfl, by decide +kernel, rfl⟩
theorem piled_up {B : Nat} : ∀ {ts : List Str}, (∀ t ∈ ts, t.length ≤ B) → piled ts ≤ ts.length * (B + 2)
  | [], _ => Nat.zero_le _
  | t :: r, h => by
    rw [piled_cons, List.length_cons, Nat.succ_mul]
    have h1 := h t List.mem_cons_self
    have h2 := piled_up (ts := r) fun u hu => h u (List.mem_cons_of_mem _ hu)
    omega
theorem shown_mem : ∀ {ds : List U} {t : Str}, t ∈ PyData.shownAll (dUs ds) → ∃ d ∈ ds, t = PyData.shown (dU d)
  | [], _, h => nomatch h
  | d :: r, t, h => by
    rcases List.mem_cons.mp h with rfl | h
    · exact ⟨d, List.mem_cons_self, rfl⟩
    · obtain ⟨x, hx, e⟩ := shown_mem (ds := r) h
      exact ⟨x, List.mem_cons_of_mem _ hx, e⟩
theorem shown_len : ∀ ds : List U, (PyData.shownAll (dUs ds)).length = ds.length
  | [] => rfl
  | d :: r => congrArg (· + 1) (shown_len r)
theorem list_text : ∀ ts : List Str, (listText ts).length ≤ piled ts + 3
  | [] => by decide +kernel
  | t :: r => by
    have e : listText (t :: r) = textFrom 1 ("[" ++ "" ++ t) r ++ "]" := rfl
    rw [e, strLen_append, textFrom_length_pos r 1 _ (by decide), strLen_append, strLen_append, piled_cons]
    have h1 : (("[" : String) : Str).length = 1 := rfl
    have h2 : (("" : String) : Str).length = 0 := rfl
    have h3 : (("]" : String) : Str).length = 1 := rfl
    omega
theorem tuple_text (ts : List Str) : (tupleText ts).length ≤ piled ts + 3 := by
  unfold tupleText
  rw [strLen_append, strLen_append]
  have h1 : (("(" : String) : Str).length = 1 := rfl
  have h2 : (((if ts.length == 1 then ",)" else ")") : String) : Str).length ≤ 2 := by
    split <;> decide +kernel
  by_cases z : ts = []
  · subst z
    have h3 : (Str.join ", " []).length = 0 := rfl
    omega
  · have := join_length_add ts z
    omega
theorem any_all {e : Nat} : ∀ {ds : List U}, (∀ d ∈ ds, AnyU e d) → okUs ds = true ∧ fineAll (dUs ds) = true ∧ PyData.depthAll (dUs ds) ≤ e ∧ PyData.showableAll (dUs ds) = true
  | [], _ => ⟨rfl, rfl, Nat.zero_le _, rfl⟩
  | d :: r, h => by
    obtain ⟨a1, a2, a3, a4, _⟩ := h d List.mem_cons_self
    obtain ⟨b1, b2, b3, b4⟩ := any_all (ds := r) fun x hx => h x (List.mem_cons_of_mem _ hx)
    refine ⟨?_, ?_, ?_, ?_⟩
    · show (okU d && okUs r) = true
      rw [a1, b1]
      rfl
    · show (fine (dU d) && fineAll (dUs r)) = true
      rw [a2, b2]
      rfl
    · show max (PyData.depth (dU d)) (PyData.depthAll (dUs r)) ≤ e
      omega
    · show (PyData.showable (dU d) && PyData.showableAll (dUs r)) = true
      rw [a4, b4]
      rfl
theorem any_seq {e : Nat} {ds : List U} (h : ∀ d ∈ ds, AnyU e d) (l : ds.length ≤ 4) : AnyU (e + 1) (.lst ds) ∧ AnyU (e + 1) (.tup ds) := by
  obtain ⟨a1, a2, a3, a4⟩ := any_all h
  have hl : (dUs ds).length ≤ 1000 := by rw [dUs_map, List.length_map]; omega
  have hf : (decide ((dUs ds).length ≤ 1000) && fineAll (dUs ds)) = true := by
    rw [decide_eq_true hl, a2]
    rfl
  have hp := piled_up (B := 500 * 6 ^ e) (ts := PyData.shownAll (dUs ds)) fun t ht => by
    obtain ⟨d, hd, rfl⟩ := shown_mem ht
    exact (h d hd).2.2.2.2.1
  rw [shown_len] at hp
  have h6 : 1 ≤ 6 ^ e := Nat.one_le_pow _ _ (by decide)
  have hB : ds.length * (500 * 6 ^ e + 2) ≤ 4 * (500 * 6 ^ e + 2) := Nat.mul_le_mul_right _ l
  have hs : piled (PyData.shownAll (dUs ds)) + 3 ≤ 500 * 6 ^ (e + 1) := by
    rw [Nat.pow_succ]
    omega
  have hd : PyData.depthAll (dUs ds) + 1 ≤ e + 1 := Nat.succ_le_succ a3
  exact ⟨⟨a1, hf, hd, a4, Nat.le_trans (list_text _) hs, rfl⟩, ⟨a1, hf, hd, a4, Nat.le_trans (tuple_text _) hs, rfl⟩⟩
def r_any (n : Nat) : RU := fun ρ Q _ => ∃ (b : U) (e : Nat) (m : Int), ρ = [.bor b, .val (.int (e : Nat))] ∧ e < n ∧ BagU b m ∧ m + 300 * ((6 ^ e : Nat) : Int) ≤ 500000000 ∧
  ∀ (a : Av) (d : U) (b' : U), (a = .dt d ∨ a = .own d) → AnyU e d → BagU b' (m + 300 * ((6 ^ e : Nat) : Int)) → Q a [.bor b', .val (.int (e : Nat))]
theorem e39 : (10 : Int) ^ (Int.toNat 39) = 1000000000000000000000000000000000000000 := by decide +kernel
section
variable {P : Program} {w : World} {K : PySem.W.Frag} {mg : Str → Option Value} {base : Heap}
theorem uk_any (T : Txt K mg) : ∀ n : Nat, FnOk P w K mg base CX0 (4 + n) T.f_law_any T.fd_law_any ["bag", "deep"] (spU K (r_any n))
  | 0 => by
    have no : ∀ {vs H Q E}, ¬ spU K (r_any 0) vs H Q E := fun h => by
      obtain ⟨_, _, _, _, _, _, _, _, h, _⟩ := h
      exact Nat.not_lt_zero _ h
    exact T.F_law_any.ok sc_law_any (fun _ _ _ _ h => absurd h no) fun _ _ _ _ _ _ _ _ _ h => absurd h no
  | n + 1 => by
    have G_law_any := uk_any T n
    have G_law_take := ok_law_take (P := P) (w := w) (base := base) T
    have G_law_of := ok_law_of (P := P) (w := w) (base := base) T
    have G_law_class := ok_law_class (P := P) (w := w) (base := base) T
    have G_law_word := uk_word (P := P) (w := w) (base := base) T
    refine Fun_okU T.F_law_any sc_law_any (fun ρ Q X h => ?_) (fun cdv A outer s H E hr => ?_)
    · obtain ⟨b, e, m, rfl, _⟩ := h
      rfl
    have hr : Room (4 + n) (A.deeper (envOfC (Str.ofString "_law_any") (defScope s_law_any) s.heap.objs.size T.f_law_any cdv)) := hr
    refine ⟨_, (pss_cons (ps_set (i := 2) sc_law_any.nd rfl (.inl rfl) (pe_call G_law_take (hr.mono (by omega)) (by rfl) T.g_law_take T.F_law_take.kp T.b_law_take .nil pass0 (pa_cons (pv 0) (pa_cons pe_int pa_nil))))
        (pss_cons (ps_if (pt_cmpR op_eq (pv 2) pe_int (nomark _)) (pss_one (ps_ret (pe_call G_law_of (hr.mono (by omega)) (by rfl) T.g_law_of T.F_law_of.kp T.b_law_of .nil pass0 (pa_cons (pv 0) (pa_cons (pe_lst (pa_cons pe_non (pa_cons pe_bl (pa_cons pe_bl (pa_cons pe_int (pa_cons pe_int pa_nil)))))) pa_nil))))) pss_nil)
        (pss_cons (ps_if (pt_cmpR op_eq (pv 2) pe_int (nomark _)) (pss_one (ps_ret (pe_op op_sub (pe_call G_law_take (hr.mono (by omega)) (by rfl) T.g_law_take T.F_law_take.kp T.b_law_take .nil pass0 (pa_cons (pv 0) (pa_cons (pe_op op_mul pe_int (pe_op op_pow pe_int pe_int)) pa_nil))) (pe_op op_pow pe_int pe_int)))) pss_nil)
        (pss_cons (ps_if (pt_cmpR op_eq (pv 2) pe_int (nomark _)) (pss_one (ps_ret (pe_call G_law_word (hr.mono (by omega)) (by rfl) T.g_law_word T.F_law_word.kp T.b_law_word .nil pass0 (pa_cons (pv 0) (pa_cons pe_int pa_nil))))) pss_nil)
        (pss_cons (ps_if (pt_cmpR op_eq (pv 2) pe_int (nomark _)) (pss_one (ps_ret (pe_call G_law_of (hr.mono (by omega)) (by rfl) T.g_law_of T.F_law_of.kp T.b_law_of .nil pass0 (pa_cons (pv 0) (pa_cons (pe_lst (pa_cons pe_str (pa_cons pe_str (pa_cons pe_str (pa_cons pe_str (pa_cons pe_str (pa_cons pe_str (pa_cons pe_str (pa_cons pe_str (pa_cons pe_str (pa_cons pe_str pa_nil))))))))))) pa_nil))))) pss_nil)
        (pss_cons (ps_if (pt_cmpR op_eq (pv 2) pe_int (nomark _)) (pss_one (ps_ret (pe_call G_law_class (hr.mono (by omega)) (by rfl) T.g_law_class T.F_law_class.kp T.b_law_class .nil pass0 (pa_cons (pv 0) pa_nil)))) pss_nil)
        (pss_cons (ps_if (pt_cmpR op_eq (pv 1) pe_int (nomark _)) (pss_one (ps_ret (pe_op op_sub (pe_call G_law_take (hr.mono (by omega)) (by rfl) T.g_law_take T.F_law_take.kp T.b_law_take .nil pass0 (pa_cons (pv 0) (pa_cons pe_int pa_nil))) pe_int))) pss_nil)
        (pss_cons (ps_setLc (i := 3) (own := [("turn", 4)]) (g := gName 4) rfl sc_law_any.nd rfl rfl (sw_true rfl rfl rfl (by decide +kernel)) (pi_range1 (by rfl) T.m_range (pa_cons (pe_call G_law_take (hr.mono (by omega)) (by rfl) T.g_law_take T.F_law_take.kp T.b_law_take .nil pass0 (pa_cons (pv 0) (pa_cons pe_int pa_nil))) pa_nil)) (blkOk_by (own := [("turn", 4)]) (N := ["bag", "deep", "way", "some", "turn"]) (sc := defScope s_law_any) (by decide +kernel)) (fun _ _ _ _ _ => pg_name (i := 4) sc_law_any.nd rfl (.inl rfl)) (fun _ _ _ _ _ => pts_nil) (fun _ _ _ _ _ => (pe_call G_law_any hr (by rfl) T.g_law_any T.F_law_any.kp T.b_law_any .nil pass0 (pa_cons (pv 0) (pa_cons (pe_op op_sub (pv 1) pe_int) pa_nil)))))
        (pss_one (ps_ret (pe_ifExp (pt_cmpR op_lt (pv 2) pe_int (nomark _)) (pe_callTy call_tuple_of (by rfl) T.m_tuple (by decide +kernel) (pa_cons (pv 3) pa_nil)) (pv 3)))))))))))), ?_⟩
    rintro W ρ Qd Xd ⟨b, e, m, rfl, he, hb, hm, q⟩
    have hX : 1 ≤ 6 ^ e := Nat.one_le_pow _ _ (by decide)
    show WS K _ _ [.bor _, .val _, .un, .un, .un] _
    repeat (walk_at "u")
    refine callU [true, true] rfl rfl fun Q' X' qq xx => ⟨b, _, _, rfl, hb, by omega, by omega, by decide, fun way b1 w0 w1 hb1 => qq _ _ ?_⟩
    walk_at "ucl"
    repeat (walk_at "u")
    have leaf : ∀ (d : U) (b' : U) (c : Int), AnyU 0 d → BagU b' (m + c) → c ≤ 300 → Qd (.dt d) [.bor b', .val (.int (e : Nat))] := fun d b' c h1 h2 h3 =>
      q _ d b' (.inl rfl) (h1.up (Nat.zero_le _)) (h2.mono (by omega))
    refine ite2 (fun z => ?_) (fun z => ?_)
    · clear z
      repeat (walk_at "u")
      refine callU [true, true] rfl rfl fun Q' X' qq xx => ⟨b1, _, _, rfl, hb1, by omega, .inl ⟨_, .inl rfl, by decide, by decide, fun d b2 hd hb2 => qq _ _ ?_⟩⟩
      walk_at "ucl"
      refine ⟨trivial, leaf d b2 2 ?_ (hb2.mono (by omega)) (by decide)⟩
      simp only [List.mem_cons, List.not_mem_nil, or_false] at hd
      rcases hd with rfl | rfl | rfl | rfl | rfl
      · exact any_non
      · exact any_bl _
      · exact any_bl _
      · exact any_int (by decide)
      · exact any_int (by decide)
    clear z
    repeat (walk_at "u")
    refine ite2 (fun z => ?_) (fun z => ?_)
    · clear z
      repeat (walk_at "u")
      refine callU [true, true] rfl rfl fun Q' X' qq xx => ⟨b1, _, _, rfl, hb1, by omega, by decide +kernel, by decide +kernel, fun i b2 i0 i1 hb2 => qq _ _ ?_⟩
      walk_at "ucl"
      repeat (walk_at "u")
      refine leaf _ b2 2 (any_int ?_) (hb2.mono (by omega)) (by decide)
      rw [e39] at i1 ⊢
      omega
    clear z
    repeat (walk_at "u")
    refine ite2 (fun z => ?_) (fun z => ?_)
    · clear z
      repeat (walk_at "u")
      refine callU [true, true] rfl rfl fun Q' X' qq xx => ⟨b1, 31, _, rfl, hb1, by omega, by decide, fun y b2 hy1 hy2 hb2 => qq _ _ ?_⟩
      walk_at "ucl"
      exact ⟨trivial, leaf _ b2 101 (any_str ⟨by omega, strOk_low hy2⟩) (hb2.mono (by omega)) (by decide)⟩
    clear z
    repeat (walk_at "u")
    refine ite2 (fun z => ?_) (fun z => ?_)
    · clear z
      repeat (walk_at "u")
      refine callU [true, true] rfl rfl fun Q' X' qq xx => ⟨b1, _, _, rfl, hb1, by omega, .inl ⟨_, .inl rfl, by decide, by decide, fun d b2 hd hb2 => qq _ _ ?_⟩⟩
      walk_at "ucl"
      refine ⟨trivial, leaf d b2 2 ?_ (hb2.mono (by omega)) (by decide)⟩
      simp only [List.mem_cons, List.not_mem_nil, or_false] at hd
      rcases hd with rfl | rfl | rfl | rfl | rfl | rfl | rfl | rfl | rfl | rfl <;> exact any_str ⟨by decide +kernel, by decide +kernel⟩
    clear z
    repeat (walk_at "u")
    refine ite2 (fun z => ?_) (fun z => ?_)
    · clear z
      repeat (walk_at "u")
      refine callU [true] rfl rfl fun Q' X' qq xx => ⟨b1, _, rfl, hb1, by omega, fun y b2 hy hb2 => qq _ _ ?_⟩
      walk_at "ucl"
      exact ⟨trivial, leaf _ b2 21 (any_str (isClass_small hy)) (hb2.mono (by omega)) (by decide)⟩
    clear z
    repeat (walk_at "u")
    refine ite2 (fun z => ?_) (fun z => ?_)
    · clear z
      repeat (walk_at "u")
      refine callU [true, true] rfl rfl fun Q' X' qq xx => ⟨b1, _, _, rfl, hb1, by omega, by decide, by decide, fun i b2 i0 i1 hb2 => qq _ _ ?_⟩
      walk_at "ucl"
      repeat (walk_at "u")
      exact leaf _ b2 2 (any_int (by omega)) (hb2.mono (by omega)) (by decide)
    have e0 : e ≠ 0 := fun h => z (by rw [h]; rfl)
    obtain ⟨e', rfl⟩ : ∃ e', e = e' + 1 := ⟨e - 1, by omega⟩
    have hX' : 1 ≤ 6 ^ e' := Nat.one_le_pow _ _ (by decide)
    have hXX : 6 ^ (e' + 1) = 6 * 6 ^ e' := by rw [Nat.pow_succ, Nat.mul_comm]
    rw [hXX] at hm q
    clear leaf hX hXX z
    repeat (walk_at "u")
    refine callU [true, true] rfl rfl fun Q' X' qq xx => ⟨b1, _, _, rfl, hb1, by omega, by decide, by decide, fun k b2 k0 k1 hb2 => qq _ _ ?_⟩
    walk_at "ucl"
    repeat (walk_at "u")
    refine ⟨by omega, rfl, fun i acc ρ => ∃ bi : U, ρ = [.bor bi, .val (.int ((e' + 1 : Nat) : Int)), .val (.int way), .un, .un] ∧ acc.length = i ∧ (∀ d ∈ acc, AnyU e' d) ∧ BagU bi (m + 2 + 300 * ((i * 6 ^ e' : Nat) : Int)), ?_, ?_, ?_⟩
    · exact ⟨b2, rfl, rfl, nofun, hb2.mono (by omega)⟩
    · rintro i x acc ρ hx hl ⟨bi, rfl, hi, ha, hB⟩
      obtain ⟨hi2, _⟩ := rgU_get hx
      have hi3 : i ≤ 3 := by omega
      have hiX : i * 6 ^ e' ≤ 3 * 6 ^ e' := Nat.mul_le_mul_right _ hi3
      have hsX : (i + 1) * 6 ^ e' = i * 6 ^ e' + 6 ^ e' := Nat.succ_mul _ _
      repeat (walk_at "u")
      rw [show (((e' + 1 : Nat) : Int) - 1) = (e' : Int) by omega]
      refine callU [true, true] rfl rfl fun Q' X' qq xx => ⟨bi, e', _, rfl, by omega, hB, by omega, fun a d b3 had hd hb3 => qq _ _ ?_⟩
      have mem : ∀ x ∈ acc ++ [d], AnyU e' x := fun x hx => by
        rcases List.mem_append.mp hx with h | h
        · exact ha x h
        · rw [List.mem_singleton.mp h]
          exact hd
      have len : (acc ++ [d]).length = i + 1 := by
        rw [List.length_append, hi]
        rfl
      have bag : BagU b3 (m + 2 + 300 * (((i + 1) * 6 ^ e' : Nat) : Int)) := hb3.mono (by rw [hsX]; omega)
      rcases had with rfl | rfl
      · exact ⟨d, _, frzC_ok rfl, by omega, rfl, b3, rfl, len, mem, bag⟩
      · exact ⟨d, _, frzC_ok rfl, by omega, rfl, b3, rfl, len, mem, bag⟩
    · rintro acc ρ hl ⟨bi, rfl, hi, ha, hB⟩
      rw [rgU_length] at hi hB
      have hiX : k.toNat * 6 ^ e' ≤ 4 * 6 ^ e' := Nat.mul_le_mul_right _ (by omega)
      obtain ⟨s1, s2⟩ := any_seq ha (by omega)
      refine ⟨rfl, ?_⟩
      show WS K W _ [.bor bi, .val _, .val _, .own (.lst acc), .un] _
      repeat (walk_at "u")
      refine ite2 (fun z => ?_) (fun z => ?_)
      · repeat (walk_at "u")
        exact q _ _ bi (.inl rfl) s2 (hB.mono (by omega))
      · repeat (walk_at "u")
        exact q _ _ bi (.inr rfl) s1 (hB.mono (by omega))
end

/-! ### repr, chained comparisons by data -/
def rRepr (K : PySem.W.Frag) : List V → Hp → VK → Prop := fun xs H Q => ∃ v d, xs = [v] ∧ Dp K H v d ∧ PyData.showable d = true ∧ PyData.depth d ≤ 60 ∧ (PyData.shown d).length ≤ 1000000 ∧ Q (.str (PyData.shown d)) H
mutual
theorem dp_nodict {K : PySem.W.Frag} {H : Hp} : ∀ (d : PyData) (v : V), Dp K H v d → PyData.hasDict d = false
  | .none, _, _ => rfl
  | .bool _, _, _ => rfl
  | .int _, _, _ => rfl
  | .str _, _, _ => rfl
  | .list ds, _, h => by
    cases h with
    | lst _ ha => exact dps_nodict ds _ ha
  | .tuple ds, _, h => by
    cases h with
    | tup _ ha => exact dps_nodict ds _ ha
  | .dict _, _, h => by cases h
theorem dps_nodict {K : PySem.W.Frag} {H : Hp} : ∀ (ds : List PyData) (vs : List V), DpAll K H vs ds → PyData.hasDictAll ds = false
  | [], _, _ => rfl
  | d :: r, _, h => by
    cases h with
    | cons h1 h2 =>
      show (PyData.hasDict d || PyData.hasDictAll r) = false
      rw [dp_nodict d _ h1, dps_nodict r _ h2]
      rfl
end
theorem call_reprD {X : Cx} (hg : X.A.guards = some []) (hu : X.A.units + 64 < cLine) : CallR X (.builtin "repr") (rRepr X.K) := by
  intro pins s σ H xs us Q I r h
  obtain ⟨v, d, rfl, hd, hs, hp, hl, q⟩ := h
  obtain ⟨u, rfl, ru⟩ := vals1 r
  obtain ⟨as, rd⟩ := Dp.reads I d v u hd ru
  have nd := dp_nodict d v hd
  have hl : (PyData.shown d).length ≤ sizeLine := Nat.le_trans hl (by decide)
  cases hd with
  | non =>
    cases ru
    exact P.repr_of_none ⟨.str _, H, I.tok _, ⟨_, rfl⟩, q⟩
  | bl b =>
    cases ru
    exact P.repr_of_bool ⟨.str _, H, I.tok _, ⟨_, rfl⟩, q⟩
  | int i =>
    obtain ⟨t, rfl⟩ := ru
    exact P.repr_of_int (of_decide_eq_true hs) ⟨.str _, H, I.tok _, ⟨_, rfl⟩, q⟩
  | str z =>
    obtain ⟨t, rfl⟩ := ru
    exact P.repr_of_str ⟨.str _, H, I.tok _, ⟨_, rfl⟩, q⟩ hl
  | lst _ _ =>
    cases ru
    exact repr_of_reads' rd hs (fun z => by rw [nd] at z; cases z) hg (by omega) (fun _ _ e => e) (fun h2 t tk k => ⟨.str _, H, I.kept (t' := tk) k, ⟨_, rfl⟩, q⟩) hl
  | tup _ _ =>
    cases ru
    exact repr_of_reads' rd hs (fun z => by rw [nd] at z; cases z) hg (by omega) (fun _ _ e => e) (fun h2 t tk k => ⟨.str _, H, I.kept (t' := tk) k, ⟨_, rfl⟩, q⟩) hl
/-! readings within a comprehension must not name its context -/
theorem op_neDK {X : Cx} {K : PySem.W.Frag} (hK : X.K = K) (hu : X.A.units + 64 < cLine) : OpR X (compareOp .NotEq) (rNeD K) := hK ▸ op_neD hu
theorem op_eqDK {X : Cx} {K : PySem.W.Frag} (hK : X.K = K) (hu : X.A.units + 64 < cLine) : OpR X (compareOp .Eq) (rEqD K) := hK ▸ op_eqD hu
theorem ix_listK {X : Cx} {K : PySem.W.Frag} (hK : X.K = K) : IxR X (rIxL K) := hK ▸ ix_list
theorem call_reprDK {X : Cx} {K : PySem.W.Frag} (hK : X.K = K) (hg : X.A.guards = some []) (hu : X.A.units + 64 < cLine) : CallR X (.builtin "repr") (rRepr K) := hK ▸ call_reprD hg hu
section
variable {K : PySem.W.Frag} {W : Wx} {X : Er → Sls → Prop} {ρ : Sls}
theorem wc_repr {a : Av} {d : U} {Q : Av → Sls → Prop} (ha : View ρ a d) (ok : okU d = true) (hs : PyData.showable (dU d) = true) (hp : PyData.depth (dU d) ≤ 60) (hl : (PyData.shown (dU d)).length ≤ 1000000) (q : Q (.dt (.str (PyData.shown (dU d)))) ρ) : WC K W (rRepr K) [a] ρ Q X := by
  rintro s vs Q0 rfl D _ h0 k
  obtain ⟨v, rfl, h⟩ := avs_one h0
  exact ⟨v, dU d, rfl, at_dp d v (view_at D h ha) ok, hs, hp, hl, k.dt D (.str _) q⟩
theorem we_chain {r r' : R2} {ta tb tc : TE} {Q : Av → Sls → Prop} (h : WE K W ta ρ (fun a ρ1 => WE K W tb ρ1 (fun b ρ2 => WR K W r a.fl b.fl ρ2 (fun c ρ3 => ∃ k, c = .dt (.bl k) ∧ if k = true then WE K W tc ρ3 (fun e ρ4 => WR K W r' b.fl e.fl ρ4 Q X) X else Q (.dt (.bl false)) ρ3) X) X) X) : WE K W (tChain r r' ta tb tc) ρ Q X := by
  rintro s Q0 rfl D x k
  refine WE.flat (Q := fun a ρ1 => WE K W tb ρ1 (fun b ρ2 => WR K W r a b.fl ρ2 (fun c ρ3 => ∃ k, c = .dt (.bl k) ∧ if k = true then WE K W tc ρ3 (fun e ρ4 => WR K W r' b.fl e.fl ρ4 Q X) X else Q (.dt (.bl false)) ρ3) X) X) h rfl D x fun v a s1 n1 f1 ok1 q1 => ?_
  show tb s.σ s1.H _
  rw [← n1.slots]
  refine WE.flat (Q := fun b ρ2 => WR K W r a b ρ2 (fun c ρ3 => ∃ k, c = .dt (.bl k) ∧ if k = true then WE K W tc ρ3 (fun e ρ4 => WR K W r' b e.fl ρ4 Q X) X else Q (.dt (.bl false)) ρ3) X) q1 rfl n1.den (x.next n1.stp) fun w b s2 n2 f2 ok2 q2 => ?_
  have n12 := n1.trans n2
  refine q2 s2 v w _ rfl n2.den (x.next n12.stp) ((AvOk.next f1 n2 ok1).self f1) ok2 fun z c s3 n3 ok3 ⟨k3, e3, q3⟩ => ?_
  subst e3
  have ok3 : At K s3.G z (.bl k3) := ok3
  cases ok3
  refine ⟨k3, rfl, ?_⟩
  have n13 := n12.trans n3
  cases k3 with
  | false => exact iteF (k _ (.dt (.bl false)) s3 n13 (At.bl false) (by simpa using q3))
  | true =>
    refine iteT ?_
    have q3 : WE K W tc s3.ρ (fun e ρ4 => WR K W r' b e.fl ρ4 Q X) X := by simpa using q3
    rw [← (n2.trans n3).slots]
    refine WE.flat (Q := fun e ρ4 => WR K W r' b e ρ4 Q X) q3 rfl n3.den (x.next n13.stp) fun y e s4 n4 f4 ok4 q4 => ?_
    exact q4 s4 w y Q0 rfl n4.den (x.next (n13.trans n4).stp) ((AvOk.next f2 (n3.trans n4) ok2).self f2) ok4 (k.lift (n13.trans n4))
end

section
variable {P : Program} {w : World} {K : PySem.W.Frag} {mg : Str → Option Value} {base : Heap}
/-! ### of which classes an error is -/
def r_classes (T : Txt K mg) : RU := fun ρ Q _ => ∃ (C : Addr) (ns : List Str) (xs : List U) (b0 b1 b2 b3 b4 b5 b6 b7 b8 b9 b10 b11 b12 b13 : Bool), ρ = [.val (.exo C ns xs)] ∧ ExcC K C ∧ PySem.W.kitOne K (.ref C) (.ref T.cC_BadFamily) = some b0 ∧ PySem.W.kitOne K (.ref C) (.ref T.cC_BadCall) = some b1 ∧ PySem.W.kitOne K (.ref C) (.ref T.cC_BadTest) = some b2 ∧ PySem.W.kitOne K (.ref C) (.ref T.cC_BadPart) = some b3 ∧ PySem.W.kitOne K (.ref C) (.ref T.cC_BadSuite) = some b4 ∧ PySem.W.kitOne K (.ref C) (.ref T.cC_OtherFamily) = some b5 ∧ PySem.W.kitOne K (.ref C) (.ref T.cC_BadDemand) = some b6 ∧ PySem.W.kitOne K (.ref C) (.ref T.cC_BadDeed) = some b7 ∧ PySem.W.kitOne K (.ref C) (.ref T.cC_NoClass) = some b8 ∧ PySem.W.kitOne K (.ref C) (.ref T.cC_NoCall) = some b9 ∧ PySem.W.kitOne K (.ref C) (.ref T.cC_NoTest) = some b10 ∧ PySem.W.kitOne K (.ref C) (.ref T.cC_NoCheck) = some b11 ∧ PySem.W.kitOne K (.ref C) (.ref T.cC_NothingToUndo) = some b12 ∧ PySem.W.kitOne K (.ref C) (.ref T.cC_Raised) = some b13 ∧
  Q (.own (.lst [.bl b0, .bl b1, .bl b2, .bl b3, .bl b4, .bl b5, .bl b6, .bl b7, .bl b8, .bl b9, .bl b10, .bl b11, .bl b12, .bl b13])) [.val (.exo C ns xs)]
theorem uk_classes (T : Txt K mg) : FnOk P w K mg base CX0 1 T.f_law_classes T.fd_law_classes ["e"] (spU K (r_classes T)) := by
  refine Fun_okU T.F_law_classes sc_law_classes (fun ρ Q X h => ?_) (fun cdv A outer s H E hr => ⟨_, (pss_cons (ps_set (i := 1) sc_law_classes.nd rfl (.inl rfl) (pe_lst (pa_cons (pe_callB call_isG (by rfl) T.m_isinstance (by decide +kernel) (pa_cons (pv 0) (pa_cons (pe_glob (v := .ref T.cC_BadFamily) rfl T.cV_BadFamily.g rfl) pa_nil))) (pa_cons (pe_callB call_isG (by rfl) T.m_isinstance (by decide +kernel) (pa_cons (pv 0) (pa_cons (pe_glob (v := .ref T.cC_BadCall) rfl T.cV_BadCall.g rfl) pa_nil))) (pa_cons (pe_callB call_isG (by rfl) T.m_isinstance (by decide +kernel) (pa_cons (pv 0) (pa_cons (pe_glob (v := .ref T.cC_BadTest) rfl T.cV_BadTest.g rfl) pa_nil))) (pa_cons (pe_callB call_isG (by rfl) T.m_isinstance (by decide +kernel) (pa_cons (pv 0) (pa_cons (pe_glob (v := .ref T.cC_BadPart) rfl T.cV_BadPart.g rfl) pa_nil))) pa_nil))))))
        (pss_cons (ps_set (i := 1) sc_law_classes.nd rfl (.inl rfl) (pe_op op_cat (pv 1) (pe_lst (pa_cons (pe_callB call_isG (by rfl) T.m_isinstance (by decide +kernel) (pa_cons (pv 0) (pa_cons (pe_glob (v := .ref T.cC_BadSuite) rfl T.cV_BadSuite.g rfl) pa_nil))) (pa_cons (pe_callB call_isG (by rfl) T.m_isinstance (by decide +kernel) (pa_cons (pv 0) (pa_cons (pe_glob (v := .ref T.cC_OtherFamily) rfl T.cV_OtherFamily.g rfl) pa_nil))) (pa_cons (pe_callB call_isG (by rfl) T.m_isinstance (by decide +kernel) (pa_cons (pv 0) (pa_cons (pe_glob (v := .ref T.cC_BadDemand) rfl T.cV_BadDemand.g rfl) pa_nil))) pa_nil))))))
        (pss_cons (ps_set (i := 1) sc_law_classes.nd rfl (.inl rfl) (pe_op op_cat (pv 1) (pe_lst (pa_cons (pe_callB call_isG (by rfl) T.m_isinstance (by decide +kernel) (pa_cons (pv 0) (pa_cons (pe_glob (v := .ref T.cC_BadDeed) rfl T.cV_BadDeed.g rfl) pa_nil))) (pa_cons (pe_callB call_isG (by rfl) T.m_isinstance (by decide +kernel) (pa_cons (pv 0) (pa_cons (pe_glob (v := .ref T.cC_NoClass) rfl T.cV_NoClass.g rfl) pa_nil))) (pa_cons (pe_callB call_isG (by rfl) T.m_isinstance (by decide +kernel) (pa_cons (pv 0) (pa_cons (pe_glob (v := .ref T.cC_NoCall) rfl T.cV_NoCall.g rfl) pa_nil))) (pa_cons (pe_callB call_isG (by rfl) T.m_isinstance (by decide +kernel) (pa_cons (pv 0) (pa_cons (pe_glob (v := .ref T.cC_NoTest) rfl T.cV_NoTest.g rfl) pa_nil))) pa_nil)))))))
        (pss_cons (ps_set (i := 1) sc_law_classes.nd rfl (.inl rfl) (pe_op op_cat (pv 1) (pe_lst (pa_cons (pe_callB call_isG (by rfl) T.m_isinstance (by decide +kernel) (pa_cons (pv 0) (pa_cons (pe_glob (v := .ref T.cC_NoCheck) rfl T.cV_NoCheck.g rfl) pa_nil))) (pa_cons (pe_callB call_isG (by rfl) T.m_isinstance (by decide +kernel) (pa_cons (pv 0) (pa_cons (pe_glob (v := .ref T.cC_NothingToUndo) rfl T.cG_NothingToUndo rfl) pa_nil))) (pa_cons (pe_callB call_isG (by rfl) T.m_isinstance (by decide +kernel) (pa_cons (pv 0) (pa_cons (pe_glob (v := .ref T.cC_Raised) rfl T.cV_Raised.g rfl) pa_nil))) pa_nil))))))
        (pss_one (ps_ret (pv 1))))))), ?_⟩)
  · obtain ⟨C, ns, xs, _, _, _, _, _, _, _, _, _, _, _, _, _, _, rfl, _⟩ := h
    rfl
  rintro W ρ Qd Xd ⟨C, ns, xs, b0, b1, b2, b3, b4, b5, b6, b7, b8, b9, b10, b11, b12, b13, rfl, hC, h0, h1, h2, h3, h4, h5, h6, h7, h8, h9, h10, h11, h12, h13, q⟩
  show WS K _ _ [.val _, .un] _

  repeat (walk_at "u")
  refine wc_isG rfl rfl rfl (.inr ⟨_, _, _, rfl, hC⟩) h0 ?_
  repeat (walk_at "u")
  refine wc_isG rfl rfl rfl (.inr ⟨_, _, _, rfl, hC⟩) h1 ?_
  repeat (walk_at "u")
  refine wc_isG rfl rfl rfl (.inr ⟨_, _, _, rfl, hC⟩) h2 ?_
  repeat (walk_at "u")
  refine wc_isG rfl rfl rfl (.inr ⟨_, _, _, rfl, hC⟩) h3 ?_
  repeat (walk_at "u")
  refine wc_isG rfl rfl rfl (.inr ⟨_, _, _, rfl, hC⟩) h4 ?_
  repeat (walk_at "u")
  refine wc_isG rfl rfl rfl (.inr ⟨_, _, _, rfl, hC⟩) h5 ?_
  repeat (walk_at "u")
  refine wc_isG rfl rfl rfl (.inr ⟨_, _, _, rfl, hC⟩) h6 ?_
  repeat (walk_at "u")
  refine wc_isG rfl rfl rfl (.inr ⟨_, _, _, rfl, hC⟩) h7 ?_
  repeat (walk_at "u")
  refine wc_isG rfl rfl rfl (.inr ⟨_, _, _, rfl, hC⟩) h8 ?_
  repeat (walk_at "u")
  refine wc_isG rfl rfl rfl (.inr ⟨_, _, _, rfl, hC⟩) h9 ?_
  repeat (walk_at "u")
  refine wc_isG rfl rfl rfl (.inr ⟨_, _, _, rfl, hC⟩) h10 ?_
  repeat (walk_at "u")
  refine wc_isG rfl rfl rfl (.inr ⟨_, _, _, rfl, hC⟩) h11 ?_
  repeat (walk_at "u")
  refine wc_isG rfl rfl rfl (.inr ⟨_, _, _, rfl, hC⟩) h12 ?_
  repeat (walk_at "u")
  refine wc_isG rfl rfl rfl (.inr ⟨_, _, _, rfl, hC⟩) h13 ?_
  repeat (walk_at "u")
  exact q
def r_bases (T : Txt K mg) : RU := fun ρ Q _ => ∃ (C : Addr) (ns : List Str) (xs : List U) (b0 b1 b2 b3 b4 b5 b6 : Bool), ρ = [.val (.exo C ns xs)] ∧ ExcC K C ∧ PySem.W.kitOne K (.ref C) (.ref T.w_WhatpassesError) = some b0 ∧ PySem.W.kitOne K (.ref C) (.type "ValueError") = some b1 ∧ PySem.W.kitOne K (.ref C) (.type "LookupError") = some b2 ∧ PySem.W.kitOne K (.ref C) (.type "RuntimeError") = some b3 ∧ PySem.W.kitOne K (.ref C) (.type "KeyError") = some b4 ∧ PySem.W.kitOne K (.ref C) (.type "IndexError") = some b5 ∧ PySem.W.kitOne K (.ref C) (.type "NotImplementedError") = some b6 ∧
  Q (.own (.lst [.bl b0, .bl b1, .bl b2, .bl b3, .bl b4, .bl b5, .bl b6])) [.val (.exo C ns xs)]
theorem uk_bases (T : Txt K mg) : FnOk P w K mg base CX0 1 T.f_law_bases T.fd_law_bases ["e"] (spU K (r_bases T)) := by
  refine Fun_okU T.F_law_bases sc_law_bases (fun ρ Q X h => ?_) (fun cdv A outer s H E hr => ⟨_, (pss_cons (ps_set (i := 1) sc_law_bases.nd rfl (.inl rfl) (pe_lst (pa_cons (pe_callB call_isG (by rfl) T.m_isinstance (by decide +kernel) (pa_cons (pv 0) (pa_cons (pe_glob (v := .ref T.w_WhatpassesError) rfl T.gw_WhatpassesError rfl) pa_nil))) (pa_cons (pe_callB call_isG (by rfl) T.m_isinstance (by decide +kernel) (pa_cons (pv 0) (pa_cons (pe_bltn (v := .ty "ValueError") (by rfl) T.m_ValueError (by decide +kernel) rfl) pa_nil))) (pa_cons (pe_callB call_isG (by rfl) T.m_isinstance (by decide +kernel) (pa_cons (pv 0) (pa_cons (pe_bltn (v := .ty "LookupError") (by rfl) T.m_LookupError (by decide +kernel) rfl) pa_nil))) pa_nil)))))
        (pss_cons (ps_set (i := 1) sc_law_bases.nd rfl (.inl rfl) (pe_op op_cat (pv 1) (pe_lst (pa_cons (pe_callB call_isG (by rfl) T.m_isinstance (by decide +kernel) (pa_cons (pv 0) (pa_cons (pe_bltn (v := .ty "RuntimeError") (by rfl) T.m_RuntimeError (by decide +kernel) rfl) pa_nil))) (pa_cons (pe_callB call_isG (by rfl) T.m_isinstance (by decide +kernel) (pa_cons (pv 0) (pa_cons (pe_bltn (v := .ty "KeyError") (by rfl) T.m_KeyError (by decide +kernel) rfl) pa_nil))) (pa_cons (pe_callB call_isG (by rfl) T.m_isinstance (by decide +kernel) (pa_cons (pv 0) (pa_cons (pe_bltn (v := .ty "IndexError") (by rfl) T.m_IndexError (by decide +kernel) rfl) pa_nil))) pa_nil))))))
        (pss_one (ps_ret (pe_op op_cat (pv 1) (pe_lst (pa_cons (pe_callB call_isG (by rfl) T.m_isinstance (by decide +kernel) (pa_cons (pv 0) (pa_cons (pe_bltn (v := .ty "NotImplementedError") (by rfl) T.m_NotImplementedError (by decide +kernel) rfl) pa_nil))) pa_nil))))))), ?_⟩)
  · obtain ⟨C, ns, xs, _, _, _, _, _, _, _, rfl, _⟩ := h
    rfl
  rintro W ρ Qd Xd ⟨C, ns, xs, b0, b1, b2, b3, b4, b5, b6, rfl, hC, h0, h1, h2, h3, h4, h5, h6, q⟩
  show WS K _ _ [.val _, .un] _

  repeat (walk_at "u")
  refine wc_isG rfl rfl rfl (.inr ⟨_, _, _, rfl, hC⟩) h0 ?_
  repeat (walk_at "u")
  refine wc_isG rfl rfl rfl (.inr ⟨_, _, _, rfl, hC⟩) h1 ?_
  repeat (walk_at "u")
  refine wc_isG rfl rfl rfl (.inr ⟨_, _, _, rfl, hC⟩) h2 ?_
  repeat (walk_at "u")
  refine wc_isG rfl rfl rfl (.inr ⟨_, _, _, rfl, hC⟩) h3 ?_
  repeat (walk_at "u")
  refine wc_isG rfl rfl rfl (.inr ⟨_, _, _, rfl, hC⟩) h4 ?_
  repeat (walk_at "u")
  refine wc_isG rfl rfl rfl (.inr ⟨_, _, _, rfl, hC⟩) h5 ?_
  repeat (walk_at "u")
  refine wc_isG rfl rfl rfl (.inr ⟨_, _, _, rfl, hC⟩) h6 ?_
  repeat (walk_at "u")
  exact q
def madeU (T : Txt K mg) (d e : U) : List U := [.exo T.cC_BadFamily ["at"] [d], .exo T.cC_BadCall ["at"] [d], .exo T.cC_BadTest ["at"] [d], .exo T.cC_BadPart ["at"] [d], .exo T.cC_BadSuite ["at"] [d], .exo T.cC_OtherFamily ["at"] [d]] ++ [.exo T.cC_BadDemand ["at"] [d], .exo T.cC_BadDeed ["at"] [d], .exo T.cC_NoClass ["name"] [d], .exo T.cC_NoCall ["text"] [d], .exo T.cC_NoTest ["name"] [d]] ++ [.exo T.cC_NoCheck ["line"] [d], .exo T.cC_NothingToUndo [] [], .exo T.cC_Raised ["cause", "kind"] [e, d]]
theorem made_rows (T : Txt K mg) (d e : U) : ∀ k < 14, ∃ (C : Addr) (ns : List Str) (xs : List U), (madeU T d e)[k]? = some (.exo C ns xs) ∧ ExcC K C ∧ PySem.W.kitOne K (.ref C) (.ref T.cC_BadFamily) = some (decide (0 = k)) ∧ PySem.W.kitOne K (.ref C) (.ref T.cC_BadCall) = some (decide (1 = k)) ∧ PySem.W.kitOne K (.ref C) (.ref T.cC_BadTest) = some (decide (2 = k)) ∧ PySem.W.kitOne K (.ref C) (.ref T.cC_BadPart) = some (decide (3 = k)) ∧ PySem.W.kitOne K (.ref C) (.ref T.cC_BadSuite) = some (decide (4 = k)) ∧ PySem.W.kitOne K (.ref C) (.ref T.cC_OtherFamily) = some (decide (5 = k)) ∧ PySem.W.kitOne K (.ref C) (.ref T.cC_BadDemand) = some (decide (6 = k)) ∧ PySem.W.kitOne K (.ref C) (.ref T.cC_BadDeed) = some (decide (7 = k)) ∧ PySem.W.kitOne K (.ref C) (.ref T.cC_NoClass) = some (decide (8 = k)) ∧ PySem.W.kitOne K (.ref C) (.ref T.cC_NoCall) = some (decide (9 = k)) ∧ PySem.W.kitOne K (.ref C) (.ref T.cC_NoTest) = some (decide (10 = k)) ∧ PySem.W.kitOne K (.ref C) (.ref T.cC_NoCheck) = some (decide (11 = k)) ∧ PySem.W.kitOne K (.ref C) (.ref T.cC_NothingToUndo) = some (decide (12 = k)) ∧ PySem.W.kitOne K (.ref C) (.ref T.cC_Raised) = some (decide (13 = k)) ∧ PySem.W.kitOne K (.ref C) (.ref T.w_WhatpassesError) = some (decide (k < 8)) ∧ PySem.W.kitOne K (.ref C) (.type "ValueError") = some (decide (k < 8)) ∧ PySem.W.kitOne K (.ref C) (.type "LookupError") = some ((decide (8 ≤ k) && decide (k < 13))) ∧ PySem.W.kitOne K (.ref C) (.type "RuntimeError") = some (decide (k = 13)) ∧ PySem.W.kitOne K (.ref C) (.type "KeyError") = some (false) ∧ PySem.W.kitOne K (.ref C) (.type "IndexError") = some (false) ∧ PySem.W.kitOne K (.ref C) (.type "NotImplementedError") = some (false)
  | 0, _ => ⟨_, _, _, rfl, T.ck_BadFamily, T.ks_BadFamily_BadFamily, T.ks_BadFamily_BadCall, T.ks_BadFamily_BadTest, T.ks_BadFamily_BadPart, T.ks_BadFamily_BadSuite, T.ks_BadFamily_OtherFamily, T.ks_BadFamily_BadDemand, T.ks_BadFamily_BadDeed, T.ks_BadFamily_NoClass, T.ks_BadFamily_NoCall, T.ks_BadFamily_NoTest, T.ks_BadFamily_NoCheck, T.ks_BadFamily_NothingToUndo, T.ks_BadFamily_Raised, T.ks_BadFamily_WhatpassesError, T.ks_BadFamily_ValueError, T.ks_BadFamily_LookupError, T.ks_BadFamily_RuntimeError, T.ks_BadFamily_KeyError, T.ks_BadFamily_IndexError, T.ks_BadFamily_NotImplementedError⟩
  | 1, _ => ⟨_, _, _, rfl, T.ck_BadCall, T.ks_BadCall_BadFamily, T.ks_BadCall_BadCall, T.ks_BadCall_BadTest, T.ks_BadCall_BadPart, T.ks_BadCall_BadSuite, T.ks_BadCall_OtherFamily, T.ks_BadCall_BadDemand, T.ks_BadCall_BadDeed, T.ks_BadCall_NoClass, T.ks_BadCall_NoCall, T.ks_BadCall_NoTest, T.ks_BadCall_NoCheck, T.ks_BadCall_NothingToUndo, T.ks_BadCall_Raised, T.ks_BadCall_WhatpassesError, T.ks_BadCall_ValueError, T.ks_BadCall_LookupError, T.ks_BadCall_RuntimeError, T.ks_BadCall_KeyError, T.ks_BadCall_IndexError, T.ks_BadCall_NotImplementedError⟩
  | 2, _ => ⟨_, _, _, rfl, T.ck_BadTest, T.ks_BadTest_BadFamily, T.ks_BadTest_BadCall, T.ks_BadTest_BadTest, T.ks_BadTest_BadPart, T.ks_BadTest_BadSuite, T.ks_BadTest_OtherFamily, T.ks_BadTest_BadDemand, T.ks_BadTest_BadDeed, T.ks_BadTest_NoClass, T.ks_BadTest_NoCall, T.ks_BadTest_NoTest, T.ks_BadTest_NoCheck, T.ks_BadTest_NothingToUndo, T.ks_BadTest_Raised, T.ks_BadTest_WhatpassesError, T.ks_BadTest_ValueError, T.ks_BadTest_LookupError, T.ks_BadTest_RuntimeError, T.ks_BadTest_KeyError, T.ks_BadTest_IndexError, T.ks_BadTest_NotImplementedError⟩
  | 3, _ => ⟨_, _, _, rfl, T.ck_BadPart, T.ks_BadPart_BadFamily, T.ks_BadPart_BadCall, T.ks_BadPart_BadTest, T.ks_BadPart_BadPart, T.ks_BadPart_BadSuite, T.ks_BadPart_OtherFamily, T.ks_BadPart_BadDemand, T.ks_BadPart_BadDeed, T.ks_BadPart_NoClass, T.ks_BadPart_NoCall, T.ks_BadPart_NoTest, T.ks_BadPart_NoCheck, T.ks_BadPart_NothingToUndo, T.ks_BadPart_Raised, T.ks_BadPart_WhatpassesError, T.ks_BadPart_ValueError, T.ks_BadPart_LookupError, T.ks_BadPart_RuntimeError, T.ks_BadPart_KeyError, T.ks_BadPart_IndexError, T.ks_BadPart_NotImplementedError⟩
  | 4, _ => ⟨_, _, _, rfl, T.ck_BadSuite, T.ks_BadSuite_BadFamily, T.ks_BadSuite_BadCall, T.ks_BadSuite_BadTest, T.ks_BadSuite_BadPart, T.ks_BadSuite_BadSuite, T.ks_BadSuite_OtherFamily, T.ks_BadSuite_BadDemand, T.ks_BadSuite_BadDeed, T.ks_BadSuite_NoClass, T.ks_BadSuite_NoCall, T.ks_BadSuite_NoTest, T.ks_BadSuite_NoCheck, T.ks_BadSuite_NothingToUndo, T.ks_BadSuite_Raised, T.ks_BadSuite_WhatpassesError, T.ks_BadSuite_ValueError, T.ks_BadSuite_LookupError, T.ks_BadSuite_RuntimeError, T.ks_BadSuite_KeyError, T.ks_BadSuite_IndexError, T.ks_BadSuite_NotImplementedError⟩
  | 5, _ => ⟨_, _, _, rfl, T.ck_OtherFamily, T.ks_OtherFamily_BadFamily, T.ks_OtherFamily_BadCall, T.ks_OtherFamily_BadTest, T.ks_OtherFamily_BadPart, T.ks_OtherFamily_BadSuite, T.ks_OtherFamily_OtherFamily, T.ks_OtherFamily_BadDemand, T.ks_OtherFamily_BadDeed, T.ks_OtherFamily_NoClass, T.ks_OtherFamily_NoCall, T.ks_OtherFamily_NoTest, T.ks_OtherFamily_NoCheck, T.ks_OtherFamily_NothingToUndo, T.ks_OtherFamily_Raised, T.ks_OtherFamily_WhatpassesError, T.ks_OtherFamily_ValueError, T.ks_OtherFamily_LookupError, T.ks_OtherFamily_RuntimeError, T.ks_OtherFamily_KeyError, T.ks_OtherFamily_IndexError, T.ks_OtherFamily_NotImplementedError⟩
  | 6, _ => ⟨_, _, _, rfl, T.ck_BadDemand, T.ks_BadDemand_BadFamily, T.ks_BadDemand_BadCall, T.ks_BadDemand_BadTest, T.ks_BadDemand_BadPart, T.ks_BadDemand_BadSuite, T.ks_BadDemand_OtherFamily, T.ks_BadDemand_BadDemand, T.ks_BadDemand_BadDeed, T.ks_BadDemand_NoClass, T.ks_BadDemand_NoCall, T.ks_BadDemand_NoTest, T.ks_BadDemand_NoCheck, T.ks_BadDemand_NothingToUndo, T.ks_BadDemand_Raised, T.ks_BadDemand_WhatpassesError, T.ks_BadDemand_ValueError, T.ks_BadDemand_LookupError, T.ks_BadDemand_RuntimeError, T.ks_BadDemand_KeyError, T.ks_BadDemand_IndexError, T.ks_BadDemand_NotImplementedError⟩
  | 7, _ => ⟨_, _, _, rfl, T.ck_BadDeed, T.ks_BadDeed_BadFamily, T.ks_BadDeed_BadCall, T.ks_BadDeed_BadTest, T.ks_BadDeed_BadPart, T.ks_BadDeed_BadSuite, T.ks_BadDeed_OtherFamily, T.ks_BadDeed_BadDemand, T.ks_BadDeed_BadDeed, T.ks_BadDeed_NoClass, T.ks_BadDeed_NoCall, T.ks_BadDeed_NoTest, T.ks_BadDeed_NoCheck, T.ks_BadDeed_NothingToUndo, T.ks_BadDeed_Raised, T.ks_BadDeed_WhatpassesError, T.ks_BadDeed_ValueError, T.ks_BadDeed_LookupError, T.ks_BadDeed_RuntimeError, T.ks_BadDeed_KeyError, T.ks_BadDeed_IndexError, T.ks_BadDeed_NotImplementedError⟩
  | 8, _ => ⟨_, _, _, rfl, T.ck_NoClass, T.ks_NoClass_BadFamily, T.ks_NoClass_BadCall, T.ks_NoClass_BadTest, T.ks_NoClass_BadPart, T.ks_NoClass_BadSuite, T.ks_NoClass_OtherFamily, T.ks_NoClass_BadDemand, T.ks_NoClass_BadDeed, T.ks_NoClass_NoClass, T.ks_NoClass_NoCall, T.ks_NoClass_NoTest, T.ks_NoClass_NoCheck, T.ks_NoClass_NothingToUndo, T.ks_NoClass_Raised, T.ks_NoClass_WhatpassesError, T.ks_NoClass_ValueError, T.ks_NoClass_LookupError, T.ks_NoClass_RuntimeError, T.ks_NoClass_KeyError, T.ks_NoClass_IndexError, T.ks_NoClass_NotImplementedError⟩
  | 9, _ => ⟨_, _, _, rfl, T.ck_NoCall, T.ks_NoCall_BadFamily, T.ks_NoCall_BadCall, T.ks_NoCall_BadTest, T.ks_NoCall_BadPart, T.ks_NoCall_BadSuite, T.ks_NoCall_OtherFamily, T.ks_NoCall_BadDemand, T.ks_NoCall_BadDeed, T.ks_NoCall_NoClass, T.ks_NoCall_NoCall, T.ks_NoCall_NoTest, T.ks_NoCall_NoCheck, T.ks_NoCall_NothingToUndo, T.ks_NoCall_Raised, T.ks_NoCall_WhatpassesError, T.ks_NoCall_ValueError, T.ks_NoCall_LookupError, T.ks_NoCall_RuntimeError, T.ks_NoCall_KeyError, T.ks_NoCall_IndexError, T.ks_NoCall_NotImplementedError⟩
  | 10, _ => ⟨_, _, _, rfl, T.ck_NoTest, T.ks_NoTest_BadFamily, T.ks_NoTest_BadCall, T.ks_NoTest_BadTest, T.ks_NoTest_BadPart, T.ks_NoTest_BadSuite, T.ks_NoTest_OtherFamily, T.ks_NoTest_BadDemand, T.ks_NoTest_BadDeed, T.ks_NoTest_NoClass, T.ks_NoTest_NoCall, T.ks_NoTest_NoTest, T.ks_NoTest_NoCheck, T.ks_NoTest_NothingToUndo, T.ks_NoTest_Raised, T.ks_NoTest_WhatpassesError, T.ks_NoTest_ValueError, T.ks_NoTest_LookupError, T.ks_NoTest_RuntimeError, T.ks_NoTest_KeyError, T.ks_NoTest_IndexError, T.ks_NoTest_NotImplementedError⟩
  | 11, _ => ⟨_, _, _, rfl, T.ck_NoCheck, T.ks_NoCheck_BadFamily, T.ks_NoCheck_BadCall, T.ks_NoCheck_BadTest, T.ks_NoCheck_BadPart, T.ks_NoCheck_BadSuite, T.ks_NoCheck_OtherFamily, T.ks_NoCheck_BadDemand, T.ks_NoCheck_BadDeed, T.ks_NoCheck_NoClass, T.ks_NoCheck_NoCall, T.ks_NoCheck_NoTest, T.ks_NoCheck_NoCheck, T.ks_NoCheck_NothingToUndo, T.ks_NoCheck_Raised, T.ks_NoCheck_WhatpassesError, T.ks_NoCheck_ValueError, T.ks_NoCheck_LookupError, T.ks_NoCheck_RuntimeError, T.ks_NoCheck_KeyError, T.ks_NoCheck_IndexError, T.ks_NoCheck_NotImplementedError⟩
  | 12, _ => ⟨_, _, _, rfl, T.ck_NothingToUndo, T.ks_NothingToUndo_BadFamily, T.ks_NothingToUndo_BadCall, T.ks_NothingToUndo_BadTest, T.ks_NothingToUndo_BadPart, T.ks_NothingToUndo_BadSuite, T.ks_NothingToUndo_OtherFamily, T.ks_NothingToUndo_BadDemand, T.ks_NothingToUndo_BadDeed, T.ks_NothingToUndo_NoClass, T.ks_NothingToUndo_NoCall, T.ks_NothingToUndo_NoTest, T.ks_NothingToUndo_NoCheck, T.ks_NothingToUndo_NothingToUndo, T.ks_NothingToUndo_Raised, T.ks_NothingToUndo_WhatpassesError, T.ks_NothingToUndo_ValueError, T.ks_NothingToUndo_LookupError, T.ks_NothingToUndo_RuntimeError, T.ks_NothingToUndo_KeyError, T.ks_NothingToUndo_IndexError, T.ks_NothingToUndo_NotImplementedError⟩
  | 13, _ => ⟨_, _, _, rfl, T.ck_Raised, T.ks_Raised_BadFamily, T.ks_Raised_BadCall, T.ks_Raised_BadTest, T.ks_Raised_BadPart, T.ks_Raised_BadSuite, T.ks_Raised_OtherFamily, T.ks_Raised_BadDemand, T.ks_Raised_BadDeed, T.ks_Raised_NoClass, T.ks_Raised_NoCall, T.ks_Raised_NoTest, T.ks_Raised_NoCheck, T.ks_Raised_NothingToUndo, T.ks_Raised_Raised, T.ks_Raised_WhatpassesError, T.ks_Raised_ValueError, T.ks_Raised_LookupError, T.ks_Raised_RuntimeError, T.ks_Raised_KeyError, T.ks_Raised_IndexError, T.ks_Raised_NotImplementedError⟩
  | k + 14, h => absurd h (by omega)
theorem made_at (T : Txt K mg) (d e : U) : ∀ k < 8, ∃ C : Addr, (madeU T d e)[k]? = some (.exo C ["at"] [d]) ∧ XfC K C ∧ PySem.W.findIn K (.ref C) "at" = some none
  | 0, _ => ⟨_, rfl, T.cx_BadFamily, T.cn_BadFamily_at⟩
  | 1, _ => ⟨_, rfl, T.cx_BadCall, T.cn_BadCall_at⟩
  | 2, _ => ⟨_, rfl, T.cx_BadTest, T.cn_BadTest_at⟩
  | 3, _ => ⟨_, rfl, T.cx_BadPart, T.cn_BadPart_at⟩
  | 4, _ => ⟨_, rfl, T.cx_BadSuite, T.cn_BadSuite_at⟩
  | 5, _ => ⟨_, rfl, T.cx_OtherFamily, T.cn_OtherFamily_at⟩
  | 6, _ => ⟨_, rfl, T.cx_BadDemand, T.cn_BadDemand_at⟩
  | 7, _ => ⟨_, rfl, T.cx_BadDeed, T.cn_BadDeed_at⟩
  | k + 8, h => absurd h (by omega)
end

theorem keep_same {b : Addr} {H H1 H2 : Hp} (s : Same H H1) (nb : H b = none) (k : Keep b H1 H2) : Same H H2 := fun q o e => k q o (ne_of_none e nb) (s q o e)
theorem kit2 {K : PySem.W.Frag} {a c1 c2 : String} {r1 r2 : Bool} (h1 : kitB a c1 = some r1) (h2 : kitB a c2 = some r2) : PySem.W.kitAny K (.type a) [.type c1, .type c2] = some (r1 || r2) := by
  refine kitAny_cons (kit_ty h1) (fun e => ?_) (fun e => by rw [e]; rfl)
  rw [e, Bool.false_or]
  exact kitAny_cons (kit_ty h2) (fun e => by rw [e]; exact kitAny_nil) (fun e => e)
def spLaw (K : PySem.W.Frag) : Sp := fun vs H Q _ => ∃ (a : Addr) (ns : List Int), vs = [.ref a] ∧ SqL K H a (ns.map V.int) ∧ ns.length ≤ 63 ∧ (∀ z ∈ ns, Builtin.Int.intBits z ≤ 1048576) ∧ ∀ H', Q (.bl true) H'

section
variable {K : PySem.W.Frag} {W : Wx} {X : Er → Sls → Prop} {ρ : Sls}
/-- deep == of plain data -/
theorem wr_eqD {a b : Av} {d e : U} {Q : Av → Sls → Prop} (ha : View ρ a d) (hb : View ρ b e) (od : okU d = true) (oe : okU e = true) (sd : SeqAt.shaped (dU d) = true) (se : SeqAt.shaped (dU e) = true) (q : Q (.dt (.bl (PyData.eqv (dU d) (dU e)))) ρ) : WR K W (rEqD K) a b ρ Q X := by
  rintro s v w Q0 rfl D _ h1 h2 k
  exact ⟨dU d, dU e, at_dp d v (view_at D h1 ha) od, at_dp e w (view_at D h2 hb) oe, sd, se, k.dt D (.bl _) q⟩
theorem wr_neD {a b : Av} {d e : U} {Q : Av → Sls → Prop} (ha : View ρ a d) (hb : View ρ b e) (od : okU d = true) (oe : okU e = true) (sd : SeqAt.shaped (dU d) = true) (se : SeqAt.shaped (dU e) = true) (q : Q (.dt (.bl (!PyData.eqv (dU d) (dU e)))) ρ) : WR K W (rNeD K) a b ρ Q X := by
  rintro s v w Q0 rfl D _ h1 h2 k
  exact ⟨dU d, dU e, at_dp d v (view_at D h1 ha) od, at_dp e w (view_at D h2 hb) oe, sd, se, k.dt D (.bl _) q⟩
end

def r_bag : RU := fun ρ Q _ => ∃ (ns : List Int) (i : Int), ρ = [.val (.fls (ns.map .int)), .val (.int i)] ∧ ns.length ≤ 63 ∧ 0 ≤ i ∧ i ≤ 63 ∧ ∀ b, BagU b 0 → Q (.own b) [.val (.fls (ns.map .int)), .val (.int i)]
section
variable {P : Program} {w : World} {K : PySem.W.Frag} {mg : Str → Option Value} {base : Heap}
theorem uk_bag (T : Txt K mg) : FnOk P w K mg base CX0 1 T.f_law_bag T.fd_law_bag ["script", "at"] (spU K r_bag) := by
  refine Fun_okU T.F_law_bag sc_law_bag (fun ρ Q X h => ?_) (fun cdv A outer s H E hr => ⟨_, (pss_cons (ps_set (i := 2) sc_law_bag.nd rfl (.inl rfl) (pe_ifExp (pt_cmpR op_lt (pv 1) (pe_callB call_len (by rfl) T.m_len (by decide +kernel) (pa_cons (pv 0) pa_nil)) (nomark _)) (pe_ix ix_list (pv 0) (pv 1) (fun _ _ => rfl)) pe_int))
        (pss_one (ps_ret (pe_lst (pa_cons (pe_ifExp (pt_cmpR op_ge (pe_callB call_abs (by rfl) T.m_abs (by decide +kernel) (pa_cons (pv 2) pa_nil)) (pe_op op_pow pe_int pe_int) (nomark _)) (pe_callB call_abs (by rfl) T.m_abs (by decide +kernel) (pa_cons (pv 2) pa_nil)) pe_int) (pa_cons (pe_op op_add (pe_op op_modN (pe_callTy call_int1 (by rfl) T.m_int (by decide +kernel) (pa_cons (pv 2) pa_nil)) pe_int) (pe_op op_mul pe_int (pv 1))) (pa_cons pe_int pa_nil))))))), ?_⟩)
  · obtain ⟨ns, i, rfl, _⟩ := h
    rfl
  rintro W ρ Qd Xd ⟨ns, i, rfl, h63, i0, i1, q⟩
  show WS K _ _ [.val _, .val _, .un] _
  repeat (walk_at "u")
  refine ite2 (fun e => ?_) (fun e => ?_)
  · have e := of_decide_eq_true e
    rw [List.length_map] at e
    obtain ⟨k, rfl⟩ := Int.eq_ofNat_of_zero_le i0
    have hk : k < ns.length := by omega
    repeat (walk_at "u")
    refine wr_ixF (atI_nat (v := .int ns[k]) (by rw [List.getElem?_map, List.getElem?_eq_getElem hk]; rfl)) ?_
    generalize ns[k] = c
    repeat (walk_at "u")
    have f1 : 0 ≤ c.fmod 998244353 := Int.fmod_nonneg_of_pos _ (by decide)
    have f2 : c.fmod 998244353 < 998244353 := Int.fmod_lt_of_pos _ (by decide)
    refine ite2 (fun e3 => ?_) (fun e3 => ?_)
    · repeat (walk_at "u")
      refine q _ ⟨_, _, _, rfl, ?_, ?_, ?_, by omega, by omega⟩
      · split <;> omega
      · omega
      · omega
    · repeat (walk_at "u")
      exact q _ ⟨_, _, _, rfl, by omega, by omega, by omega, by omega, by omega⟩
  · repeat (walk_at "u")
    have f0 : (0 : Int).fmod 998244353 = 0 := rfl
    exact q _ ⟨_, _, _, rfl, by omega, by omega, by omega, by omega, by omega⟩
end

theorem law_turns (x : Int) (h0 : 0 ≤ x) (h1 : x ≤ 63) : -4000000000 ≤ (if (if x < 8 then x else 8) > 1 then (if x < 8 then x else 8) else 1) ∧ (if (if x < 8 then x else 8) > 1 then (if x < 8 then x else 8) else 1) ≤ 4000000000 ∧ (if (if x < 8 then x else 8) > 1 then (if x < 8 then x else 8) else 1).toNat ≤ 8 := by
  split <;> split <;> omega
theorem atI_last {α : Type} {xs : List α} {x : α} : atI (xs ++ [x]) (-1) = some x := by
  have e : ixN (xs ++ [x]).length (-1) = some xs.length := by
    rw [List.length_append]
    show (if (0 : Int) ≤ -1 then _ else if -((xs.length + 1 : Nat) : Int) ≤ -1 then some (-1 + ((xs.length + 1 : Nat) : Int)).toNat else none) = _
    rw [if_neg (by decide), if_pos (by omega)]
    exact congrArg some (by omega)
  show (ixN (xs ++ [x]).length (-1)).bind _ = _
  rw [e]
  simp
def r_law : RU := fun ρ Q _ => ∃ ns : List Int, ρ = [.val (.fls (ns.map .int))] ∧ ns.length ≤ 63 ∧ Q (.dt (.bl true)) [.val (.fls (ns.map .int))]
theorem ats_ints {K : PySem.W.Frag} {G : Hp} : ∀ ns : List Int, AtAll K G (ns.map V.int) (ns.map U.int)
  | [] => .nil
  | n :: ns => .cons (.int n) (ats_ints ns)
theorem law_of_U {K : PySem.W.Frag} {vs : List V} {H : Hp} {Q : VK} {E : XK} (h : spLaw K vs H Q E) : spU K r_law vs H Q E := by
  obtain ⟨a, ns, rfl, hs, hl, _, q⟩ := h
  refine ⟨H, [.val (.fls (ns.map .int))], ⟨Same.refl H, rfl, fun i d e => ?_, fun i sl d e1 e2 => ?_, fun i j a h1 _ => absurd ⟨i, h1⟩ no_own⟩, fun i sl e => ?_, ns, rfl, hl, fun v s' _ _ _ _ _ hv => ?_⟩
  · match i, e with
    | 0, e =>
      cases e
      exact ⟨.ref a, rfl, .fls hs (ats_ints ns)⟩
    | i + 1, e => cases e
  · have := List.mem_of_getElem? e1
    rw [List.mem_singleton.mp this] at e2
    cases e2
  · exact .inl ⟨_, List.mem_singleton.mp (List.mem_of_getElem? e)⟩
  · have hv : At K s'.G v (.bl true) := hv
    cases hv
    exact q _

/-! ### the law -/
theorem range_snoc {α : Type} (f : Nat → α) (n : Nat) : (List.range (n + 1)).map f = (List.range n).map f ++ [f n] := by
  rw [List.range_succ, List.map_append]
  rfl
theorem eq_int (i k : Nat) : decide (V.int i = V.int k) = decide (i = k) := by
  by_cases h : i = k
  · rw [h, decide_eq_true rfl, decide_eq_true rfl]
  · rw [decide_eq_false h, decide_eq_false (fun e => h (by injection e with e; omega))]
theorem lt_int (i k : Nat) : decide ((i : Int) < (k : Int)) = decide (i < k) := by
  by_cases h : i < k
  · rw [decide_eq_true h, decide_eq_true (by omega)]
  · rw [decide_eq_false h, decide_eq_false (by omega)]
theorem le_int (i k : Nat) : decide ((i : Int) ≤ (k : Int)) = decide (i ≤ k) := by
  by_cases h : i ≤ k
  · rw [decide_eq_true h, decide_eq_true (by omega)]
  · rw [decide_eq_false h, decide_eq_false (by omega)]
def bs7 (k : Nat) : List U := [.bl (decide (k < 8)), .bl (decide (k < 8)), .bl (decide (8 ≤ k) && decide (k < 13)), .bl (decide (k = 13)), .bl false, .bl false, .bl false]
theorem bs7_of {k : Nat} {b : Bool} (h : b = (decide (8 ≤ k) && decide (k < 13))) : [U.bl (decide ((k : Int) < 8)), U.bl (decide ((k : Int) < 8)), U.bl b, U.bl (decide (V.int k = V.int 13)), U.bl false, U.bl false, U.bl false] = bs7 k := by
  rw [h, show decide ((k : Int) < 8) = decide (k < 8) from lt_int k 8, show decide (V.int k = V.int 13) = decide (k = 13) from eq_int k 13]
  rfl
def bools (k : Nat) : List U := [.bl (decide (0 = k)), .bl (decide (1 = k)), .bl (decide (2 = k)), .bl (decide (3 = k)), .bl (decide (4 = k)), .bl (decide (5 = k)), .bl (decide (6 = k)), .bl (decide (7 = k)), .bl (decide (8 = k)), .bl (decide (9 = k)), .bl (decide (10 = k)), .bl (decide (11 = k)), .bl (decide (12 = k)), .bl (decide (13 = k))]
set_option hygiene false in
local macro_rules | `(tactic| walk_at "tl5") => `(tactic| (
  repeat (walk_at "u")
  refine wr_ixL ⟨_, rfl, .inr rfl⟩ (atI_nat em) ?_
  repeat (walk_at "u")
  refine callU [true] rfl rfl fun Q' X' qq xx => ⟨C, nms, xs, _, _, _, _, _, _, _, rfl, hC, s0, s1, s2, s3, s4, s5, s6, qq _ _ ?_⟩
  walk_at "ucl"
  repeat (walk_at "u")
  refine wr_neD (d := .lst (bs7 k)) (e := .lst [.bl (decide ((k : Int) < 8)), .bl (decide ((k : Int) < 8)), .bl bb, .bl (decide (V.int k = V.int 13)), .bl false, .bl false, .bl false]) rfl ⟨_, rfl, .inr rfl⟩ rfl rfl rfl rfl ?_
  rw [bs7_of hbb, eqv_dU]
  repeat (walk_at "u")
  exact ⟨_, _, _, rfl, rfl, rfl, rfl⟩))
set_option hygiene false in
local macro_rules | `(tactic| walk_at "tl6") => `(tactic| (
  repeat (walk_at "u")
  refine wr_ixL ⟨_, rfl, .inr rfl⟩ (atI_nat em) ?_
  repeat (walk_at "u")
  refine callU [true] rfl rfl fun Q' X' qq xx => ⟨C, nms, xs, _, _, _, _, _, _, _, rfl, hC, s0, s1, s2, s3, s4, s5, s6, qq _ _ ?_⟩
  walk_at "ucl"
  repeat (walk_at "u")
  refine wr_neD (d := .lst (bs7 k)) (e := .lst [.bl (decide ((k : Int) < 8)), .bl (decide ((k : Int) < 8)), .bl false, .bl (decide (V.int k = V.int 13)), .bl false, .bl false, .bl false]) rfl ⟨_, rfl, .inr rfl⟩ rfl rfl rfl rfl ?_
  rw [bs7_of hbb, eqv_dU]
  repeat (walk_at "u")
  exact ⟨_, _, _, rfl, rfl, rfl, rfl⟩))
set_option hygiene false in
local macro_rules | `(tactic| walk_at "ue") => `(tactic| first
  | walk_at "u"
  | with_reducible refine we_mkE ?_
  | with_reducible refine we_mkE2 ?_
  | with_reducible refine we_excN ?_
  | refine ⟨_, _, frzC_ok rfl, ?_⟩
  | refine ⟨_, _, _, frzC_ok rfl, ?_⟩)
section
variable {P : Program} {w : World} {K : PySem.W.Frag} {mg : Str → Option Value} {base : Heap}
theorem uk_law (T : Txt K mg) {f : Addr} {fd : FuncData} (F : Fun K "law" "law" s_law f fd) : GOk P w K mg base 9 f fd ["script"] (spU K r_law) := by
  have G_law_bag := uk_bag (P := P) (w := w) (base := base) T
  have G_law_any := uk_any (P := P) (w := w) (base := base) T 3
  have G_law_classes := uk_classes (P := P) (w := w) (base := base) T
  have G_law_bases := uk_bases (P := P) (w := w) (base := base) T
  have GI_BadFamily := gi_BadFamily (P := P) (w := w) (base := base) T
  have GI_BadCall := gi_BadCall (P := P) (w := w) (base := base) T
  have GI_BadTest := gi_BadTest (P := P) (w := w) (base := base) T
  have GI_BadPart := gi_BadPart (P := P) (w := w) (base := base) T
  have GI_BadSuite := gi_BadSuite (P := P) (w := w) (base := base) T
  have GI_OtherFamily := gi_OtherFamily (P := P) (w := w) (base := base) T
  have GI_BadDemand := gi_BadDemand (P := P) (w := w) (base := base) T
  have GI_BadDeed := gi_BadDeed (P := P) (w := w) (base := base) T
  have GI_NoClass := gi_NoClass (P := P) (w := w) (base := base) T
  have GI_NoCall := gi_NoCall (P := P) (w := w) (base := base) T
  have GI_NoTest := gi_NoTest (P := P) (w := w) (base := base) T
  have GI_NoCheck := gi_NoCheck (P := P) (w := w) (base := base) T
  have GI_Raised := gi_Raised (P := P) (w := w) (base := base) T
  refine gOk_of F sc_law (fun ρ Q X h => ?_) (fun cdv A outer s H E hr hgd => ⟨_, (pss_cons (ps_for PassesOwn.never rfl (pi_range1 (by rfl) T.m_range (pa_cons (pe_callB (call_max2 rfl) (by rfl) T.m_max (by decide +kernel) (pa_cons pe_int (pa_cons (pe_callB (call_min2 rfl) (by rfl) T.m_min (by decide +kernel) (pa_cons pe_int (pa_cons (pe_callB call_len (by rfl) T.m_len (by decide +kernel) (pa_cons (pv 0) pa_nil)) pa_nil))) pa_nil))) pa_nil)) (pg_name (i := 1) sc_law.nd rfl (.inl rfl)) (pss_cons (ps_set (i := 2) sc_law.nd rfl (.inl rfl) (pe_call G_law_bag (hr.mono (by omega)) (by rfl) T.g_law_bag T.F_law_bag.kp T.b_law_bag .nil pass0 (pa_cons (pv 0) (pa_cons (pv 1) pa_nil))))
        (pss_cons (ps_asg (pe_tup (pa_cons (pe_call G_law_any (hr.mono (by omega)) (by rfl) T.g_law_any T.F_law_any.kp T.b_law_any .nil pass0 (pa_cons (pv 2) (pa_cons pe_int pa_nil))) (pa_cons (pe_call G_law_any (hr.mono (by omega)) (by rfl) T.g_law_any T.F_law_any.kp T.b_law_any .nil pass0 (pa_cons (pv 2) (pa_cons pe_int pa_nil))) pa_nil))) (pg_tup rfl (pgs_cons (pg_name (i := 3) sc_law.nd rfl (.inr rfl)) (pgs_cons (pg_name (i := 4) sc_law.nd rfl (.inl rfl)) pgs_nil))))
        (pss_cons (ps_set (i := 5) sc_law.nd rfl (.inr rfl) (pe_lst (pa_cons (pe_ofMk (pmk_oexG T.cV_BadFamily.o T.cV_BadFamily.i T.cV_BadFamily.t GI_BadFamily (hr.mono (by omega)) T.cb_BadFamily pass0 (by rfl) T.cV_BadFamily.g (pa_cons (pv 3) pa_nil))) (pa_cons (pe_ofMk (pmk_oexG T.cV_BadCall.o T.cV_BadCall.i T.cV_BadCall.t GI_BadCall (hr.mono (by omega)) T.cb_BadCall pass0 (by rfl) T.cV_BadCall.g (pa_cons (pv 3) pa_nil))) (pa_cons (pe_ofMk (pmk_oexG T.cV_BadTest.o T.cV_BadTest.i T.cV_BadTest.t GI_BadTest (hr.mono (by omega)) T.cb_BadTest pass0 (by rfl) T.cV_BadTest.g (pa_cons (pv 3) pa_nil))) (pa_cons (pe_ofMk (pmk_oexG T.cV_BadPart.o T.cV_BadPart.i T.cV_BadPart.t GI_BadPart (hr.mono (by omega)) T.cb_BadPart pass0 (by rfl) T.cV_BadPart.g (pa_cons (pv 3) pa_nil))) (pa_cons (pe_ofMk (pmk_oexG T.cV_BadSuite.o T.cV_BadSuite.i T.cV_BadSuite.t GI_BadSuite (hr.mono (by omega)) T.cb_BadSuite pass0 (by rfl) T.cV_BadSuite.g (pa_cons (pv 3) pa_nil))) (pa_cons (pe_ofMk (pmk_oexG T.cV_OtherFamily.o T.cV_OtherFamily.i T.cV_OtherFamily.t GI_OtherFamily (hr.mono (by omega)) T.cb_OtherFamily pass0 (by rfl) T.cV_OtherFamily.g (pa_cons (pv 3) pa_nil))) pa_nil))))))))
        (pss_cons (ps_set (i := 5) sc_law.nd rfl (.inr rfl) (pe_op op_cat (pv 5) (pe_lst (pa_cons (pe_ofMk (pmk_oexG T.cV_BadDemand.o T.cV_BadDemand.i T.cV_BadDemand.t GI_BadDemand (hr.mono (by omega)) T.cb_BadDemand pass0 (by rfl) T.cV_BadDemand.g (pa_cons (pv 3) pa_nil))) (pa_cons (pe_ofMk (pmk_oexG T.cV_BadDeed.o T.cV_BadDeed.i T.cV_BadDeed.t GI_BadDeed (hr.mono (by omega)) T.cb_BadDeed pass0 (by rfl) T.cV_BadDeed.g (pa_cons (pv 3) pa_nil))) (pa_cons (pe_ofMk (pmk_oexG T.cV_NoClass.o T.cV_NoClass.i T.cV_NoClass.t GI_NoClass (hr.mono (by omega)) T.cb_NoClass pass0 (by rfl) T.cV_NoClass.g (pa_cons (pv 3) pa_nil))) (pa_cons (pe_ofMk (pmk_oexG T.cV_NoCall.o T.cV_NoCall.i T.cV_NoCall.t GI_NoCall (hr.mono (by omega)) T.cb_NoCall pass0 (by rfl) T.cV_NoCall.g (pa_cons (pv 3) pa_nil))) (pa_cons (pe_ofMk (pmk_oexG T.cV_NoTest.o T.cV_NoTest.i T.cV_NoTest.t GI_NoTest (hr.mono (by omega)) T.cb_NoTest pass0 (by rfl) T.cV_NoTest.g (pa_cons (pv 3) pa_nil))) pa_nil))))))))
        (pss_cons (ps_set (i := 5) sc_law.nd rfl (.inr rfl) (pe_op op_cat (pv 5) (pe_lst (pa_cons (pe_ofMk (pmk_oexG T.cV_NoCheck.o T.cV_NoCheck.i T.cV_NoCheck.t GI_NoCheck (hr.mono (by omega)) T.cb_NoCheck pass0 (by rfl) T.cV_NoCheck.g (pa_cons (pv 3) pa_nil))) (pa_cons (pe_excN PySem.F.excBase_LookupError T.cX_NothingToUndo T.cG_NothingToUndo T.cN_NothingToUndo (by rfl)) (pa_cons (pe_ofMk (pmk_oexG T.cV_Raised.o T.cV_Raised.i T.cV_Raised.t GI_Raised (hr.mono (by omega)) T.cb_Raised pass0 (by rfl) T.cV_Raised.g (pa_cons (pv 3) (pa_cons (pv 4) pa_nil)))) pa_nil))))))
        (pss_cons (ps_for PassesOwn.never rfl (pi_range1 (by rfl) T.m_range (pa_cons pe_int pa_nil)) (pg_name (i := 6) sc_law.nd rfl (.inr rfl)) (pss_cons (ps_set (i := 7) sc_law.nd rfl (.inl rfl) (pe_call G_law_classes (hr.mono (by omega)) (by rfl) T.g_law_classes T.F_law_classes.kp T.b_law_classes .nil pass0 (pa_cons (pe_ix (ix_listK (K := K) rfl) (pv 5) (pv 6) (fun _ _ => rfl)) pa_nil)))
        (pss_cons (ps_if (pt_cmpR (op_neD hr.units) (pv 7) (pe_lc (own := [("other", 9)]) (g := gName 9) rfl sc_law.nd (pi_range1 (by rfl) T.m_range (pa_cons pe_int pa_nil)) (blkOk_by (own := [("other", 9)]) (N := ["script", "at", "bag", "thing", "cause", "made", "k", "classes", "bases", "other"]) (sc := defScope s_law) (by decide +kernel)) (fun _ _ _ _ _ => pg_name (i := 9) sc_law.nd rfl (.inl rfl)) (fun _ _ _ _ _ => pts_nil) (fun _ _ _ _ _ => (pe_cmpR op_eq (pv 9) (pv 6) (nomark _)))) (nomark _)) (pss_one (ps_ret pe_bl)) pss_nil)
        (pss_cons (ps_set (i := 8) sc_law.nd rfl (.inl rfl) (pe_lst (pa_cons (pe_cmpR op_lt (pv 6) pe_int (nomark _)) (pa_cons (pe_cmpR op_lt (pv 6) pe_int (nomark _)) (pa_cons (pe_chain op_le op_lt pe_int (pv 6) pe_int) (pa_cons (pe_cmpR op_eq (pv 6) pe_int (nomark _)) (pa_cons pe_bl (pa_cons pe_bl (pa_cons pe_bl pa_nil)))))))))
        (pss_one (ps_if (pt_cmpR (op_neD hr.units) (pe_call G_law_bases (hr.mono (by omega)) (by rfl) T.g_law_bases T.F_law_bases.kp T.b_law_bases .nil pass0 (pa_cons (pe_ix (ix_listK (K := K) rfl) (pv 5) (pv 6) (fun _ _ => rfl)) pa_nil)) (pv 8) (nomark _)) (pss_one (ps_ret pe_bl)) pss_nil))))))
        (pss_cons (ps_if (pt_val (pe_callB (cr_any rfl) (by rfl) T.m_any (by decide +kernel) (pa_cons (pe_lc (own := [("k", 6)]) (g := gName 6) rfl sc_law.nd (pi_range1 (by rfl) T.m_range (pa_cons pe_int pa_nil)) (blkOk_by (own := [("k", 6)]) (N := ["script", "at", "bag", "thing", "cause", "made", "k", "classes", "bases", "other"]) (sc := defScope s_law) (by decide +kernel)) (fun _ _ _ _ _ => pg_name (i := 6) sc_law.nd rfl (.inl rfl)) (fun _ _ _ _ _ => pts_nil) (fun _ _ _ _ _ => (pe_or (pe_cmpR (op_neDK (K := K) rfl hr.units) (pe_xfG (K := K) rfl (pe_ix (ix_listK (K := K) rfl) (pv 5) (pv 6) (fun _ _ => rfl))) (pv 3) (nomark _)) (pe_one (pe_cmpR op_ne (pe_callB (call_reprDK (K := K) rfl hgd hr.units) (by rfl) T.m_repr (by decide +kernel) (pa_cons (pe_xfG (K := K) rfl (pe_ix (ix_listK (K := K) rfl) (pv 5) (pv 6) (fun _ _ => rfl))) pa_nil)) (pe_callB (call_reprDK (K := K) rfl hgd hr.units) (by rfl) T.m_repr (by decide +kernel) (pa_cons (pv 3) pa_nil)) (nomark _)))))) pa_nil))) (pss_one (ps_ret pe_bl)) pss_nil)
        (pss_cons (ps_if (PW.pt (pw_or (pt_cmpR (op_neD hr.units) (pe_xfG (K := K) rfl (pe_ix ix_list (pv 5) pe_int (fun _ _ => rfl))) (pv 3) (nomark _)) (pw_or (pt_cmpR (op_neD hr.units) (pe_xfG (K := K) rfl (pe_ix ix_list (pv 5) pe_int (fun _ _ => rfl))) (pv 3) (nomark _)) (pw_or (pt_cmpR (op_neD hr.units) (pe_xfG (K := K) rfl (pe_ix ix_list (pv 5) pe_int (fun _ _ => rfl))) (pv 3) (nomark _)) (pw_or1 (pt_cmpR (op_neD hr.units) (pe_xfG (K := K) rfl (pe_ix ix_list (pv 5) pe_int (fun _ _ => rfl))) (pv 3) (nomark _))))))) (pss_one (ps_ret pe_bl)) pss_nil)
        (pss_one (ps_if (PW.pt (pw_or (pt_cmpR (op_neD hr.units) (pe_tup (pa_cons (pe_xfG (K := K) rfl (pe_ix ix_list (pv 5) pe_int (fun _ _ => rfl))) (pa_cons (pe_xfG (K := K) rfl (pe_ix ix_list (pv 5) pe_int (fun _ _ => rfl))) pa_nil))) (pe_tup (pa_cons (pv 3) (pa_cons (pv 4) pa_nil))) (nomark _)) (pw_or1 (pt_cmpR op_ne (pe_callB (call_reprDK (K := K) rfl hgd hr.units) (by rfl) T.m_repr (by decide +kernel) (pa_cons (pe_xfG (K := K) rfl (pe_ix ix_list (pv 5) pe_int (fun _ _ => rfl))) pa_nil)) (pe_callB (call_reprDK (K := K) rfl hgd hr.units) (by rfl) T.m_repr (by decide +kernel) (pa_cons (pv 4) pa_nil)) (nomark _))))) (pss_one (ps_ret pe_bl)) pss_nil)))))))))))
        (pss_one (ps_ret pe_bl))), ?_⟩)
  · obtain ⟨ns, rfl, _⟩ := h
    rfl
  rintro W ρ Qd Xd ⟨ns, rfl, hl, q⟩
  show WS K _ _ [.val _, .un, .un, .un, .un, .un, .un, .un, .un, .un] _
  repeat (walk_at "u")
  have hx : 0 ≤ (((ns.map U.int).length : Nat) : Int) ∧ (((ns.map U.int).length : Nat) : Int) ≤ 63 := by
    rw [List.length_map]
    omega
  obtain ⟨b1, b2, b3⟩ := law_turns _ hx.1 hx.2
  refine ⟨⟨b1, b2⟩, fun i ρ => ∃ t1 t2 t3 t4 t5 t6 t7 t8, ρ = [.val (.fls (ns.map .int)), t1, t2, t3, t4, t5, t6, t7, t8, .un] ∧ nb [t1] 0 = true ∧ nb [t2] 0 = true ∧ nb [t3] 0 = true ∧ nb [t4] 0 = true ∧ nb [t5] 0 = true ∧ nb [t6] 0 = true ∧ nb [t7] 0 = true ∧ nb [t8] 0 = true, ?_, ?_, ?_⟩
  · exact ⟨.un, .un, .un, .un, .un, .un, .un, .un, rfl, rfl, rfl, rfl, rfl, rfl, rfl, rfl, rfl⟩
  · rintro i x ρ hxx ⟨t1, t2, t3, t4, t5, t6, t7, t8, rfl, h1, h2, h3, h4, h5, h6, h7, h8⟩
    obtain ⟨hi, hxe⟩ := rgU_get hxx
    rw [Int.zero_add] at hxe
    subst hxe
    clear hxx
    repeat (walk_at "u")
    refine callU [true, true] rfl rfl fun Q' X' qq xx => ⟨ns, i, rfl, hl, by omega, by omega, fun b hb => qq _ _ ?_⟩
    walk_at "ucl"
    repeat (walk_at "u")
    refine callU [true, true] rfl rfl fun Q' X' qq xx => ⟨b, 2, _, rfl, by decide, hb, by decide, fun a d b1 ha hd hb1 => qq _ _ ?_⟩
    have ea : a.fl = .dt d := by rcases ha with rfl | rfl <;> rfl
    clear qq xx Q' X'
    rw [ea]
    walk_at "unorm"
    repeat (walk_at "u")
    refine callU [true, true] rfl rfl fun Q' X' qq xx => ⟨b1, 2, _, rfl, by decide, hb1, by decide, fun a e b2 ha he hb2 => qq _ _ ?_⟩
    have ea : a.fl = .dt e := by rcases ha with rfl | rfl <;> rfl
    clear qq xx Q' X'
    rw [ea]
    walk_at "unorm"
    repeat (walk_at "ue")
    refine wg_tup ?_
    refine ⟨_, rfl, rfl, ?_⟩
    repeat (walk_at "ue")
    refine ⟨by omega, fun k ρ => ∃ t6 t7 t8, ρ = [.val (.fls (ns.map .int)), .val (.int i), .own b2, .val d, .val e, .own (.lst (madeU T d e)), t6, t7, t8, .un] ∧ nb [t6] 0 = true ∧ nb [t7] 0 = true ∧ nb [t8] 0 = true, ?_, ?_, ?_⟩
    · exact ⟨t6, t7, t8, rfl, h6, h7, h8⟩
    · rintro k x ρ hk0 ⟨t6, t7, t8, rfl, h6, h7, h8⟩
      obtain ⟨hk, hxe⟩ := rgU_get hk0
      rw [Int.zero_add] at hxe
      subst hxe
      clear hk0
      have hk : k < 14 := hk
      obtain ⟨C, nms, xs, em, hC, r0, r1, r2, r3, r4, r5, r6, r7, r8, r9, r10, r11, r12, r13, s0, s1, s2, s3, s4, s5, s6⟩ := made_rows T d e k hk
      repeat (walk_at "u")
      refine wr_ixL ⟨_, rfl, .inr rfl⟩ (atI_nat em) ?_
      repeat (walk_at "u")
      refine callU [true] rfl rfl fun Q' X' qq xx => ⟨C, nms, xs, _, _, _, _, _, _, _, _, _, _, _, _, _, _, rfl, hC, r0, r1, r2, r3, r4, r5, r6, r7, r8, r9, r10, r11, r12, r13, qq _ _ ?_⟩
      walk_at "ucl"
      repeat (walk_at "u")
      refine ⟨by omega, rfl, fun j acc ρ => ρ = [.val (.fls (ns.map .int)), .val (.int i), .own b2, .val d, .val e, .own (.lst (madeU T d e)), .val (.int k), .own (.lst (bools k)), t8, .un] ∧ acc = (List.range j).map fun j => U.bl (decide (j = k)), ?_, ?_, ?_⟩
      · exact ⟨rfl, rfl⟩
      · rintro j x acc ρ hj hl2 ⟨rfl, rfl⟩
        obtain ⟨hj2, hxe⟩ := rgU_get hj
        rw [Int.zero_add] at hxe
        subst hxe
        have hj2 : j < 14 := hj2
        repeat (walk_at "u")
        rw [eq_int]
        refine ⟨_, _, frzC_ok rfl, by rw [List.length_map, List.length_range]; omega, rfl, rfl, (range_snoc _ _).symm⟩
      · rintro acc ρ hl2 ⟨rfl, rfl⟩
        show WR K W _ (.sl 7) (.dt _) [.val _, .val _, .own _, .val _, .val _, .own _, .val _, .own _, _, _] _ _
        refine wr_neD (d := .lst (bools k)) (e := .lst (bools k)) ⟨_, rfl, .inr rfl⟩ rfl rfl rfl rfl rfl ?_
        rw [eqv_dU]
        repeat (walk_at "u")
        show WE K W _ [.val _, .val _, .own _, .val _, .val _, .own _, .val _, .own _, t8, .un] _ _
        refine we_chain ?_
        repeat (walk_at "u")
        refine ite2 (fun z => ?_) (fun z => ?_)
        · have z : decide (8 ≤ k) = true := (le_int 8 k).symm.trans z
          obtain ⟨bb, hb1, hbb⟩ : ∃ bb, bb = decide ((k : Int) < 13) ∧ bb = (decide (8 ≤ k) && decide (k < 13)) := ⟨_, rfl, by rw [z, show decide ((k : Int) < 13) = decide (k < 13) from lt_int k 13]; rfl⟩
          repeat (walk_at "u")
          rw [← hb1]
          walk_at "tl5"
        · have z : decide (8 ≤ k) = false := (le_int 8 k).symm.trans (Bool.eq_false_iff.mpr z)
          have hbb : false = (decide (8 ≤ k) && decide (k < 13)) := by rw [z]; rfl
          walk_at "tl6"
    · rintro ρ ⟨t6, t7, t8, rfl, h6, h7, h8⟩
      repeat (walk_at "u")
      refine ⟨by omega, by show (nb [t6] 0 && true) = true; rw [h6]; rfl, fun j acc ρ => ρ = [.val (.fls (ns.map .int)), .val (.int i), .own b2, .val d, .val e, .own (.lst (madeU T d e)), .un, t7, t8, .un] ∧ acc = (List.replicate j false).map U.bl, ?_, ?_, ?_⟩
      · exact ⟨rfl, rfl⟩
      · rintro j x acc ρ hj hl2 ⟨rfl, rfl⟩
        obtain ⟨hj2, hxe⟩ := rgU_get hj
        rw [Int.zero_add] at hxe
        subst hxe
        have hj2 : j < 8 := hj2
        obtain ⟨C, em, hX, hno⟩ := made_at T d e j hj2
        obtain ⟨d1, d2, d3, d4, d5, d6⟩ := hd
        have sh : SeqAt.shaped (dU d) = true := shaped_fine d2 (by omega)
        have d5 : (PyData.shown (dU d)).length ≤ 1000000 := Nat.le_trans d5 (by decide)
        repeat (walk_at "u")
        refine we_xfG ?_
        repeat (walk_at "u")
        refine wr_ixL ⟨_, rfl, .inr rfl⟩ (atI_nat em) ?_
        refine ⟨C, _, _, d, rfl, hX, hno, rfl, ?_⟩
        repeat (walk_at "u")
        refine wr_neD rfl rfl d1 d1 sh sh ?_
        rw [eqv_dU]
        repeat (walk_at "u")
        refine we_xfG ?_
        repeat (walk_at "u")
        refine wr_ixL ⟨_, rfl, .inr rfl⟩ (atI_nat em) ?_
        refine ⟨C, _, _, d, rfl, hX, hno, rfl, ?_⟩
        repeat (walk_at "u")
        refine wc_repr rfl d1 d4 (by omega) d5 ?_
        repeat (walk_at "u")
        refine wc_repr rfl d1 d4 (by omega) d5 ?_
        repeat (walk_at "u")
        rw [show decide (V.str (PyData.shown (dU d)) = V.str (PyData.shown (dU d))) = true from decide_eq_true rfl]
        refine ⟨_, _, frzC_ok rfl, by rw [List.length_map, List.length_replicate]; omega, rfl, rfl, ?_⟩
        rw [List.replicate_succ', List.map_append]
        rfl
      · rintro acc ρ hl2 ⟨rfl, rfl⟩
        clear b3 hl2
        have hz : nb [keepV (some t6)] 0 = true := by cases t6 <;> rfl
        show WA K W tNil [.val _, .val _, .own b2, .val d, .val e, .own (.lst (madeU T d e)), keepV (some t6), t7, t8, .un] _ _
        generalize keepV (some t6) = z6 at hz ⊢
        refine wa_nil ?_
        refine wc_any (bs := List.replicate 8 false) rfl ⟨false, rfl, ?_⟩
        have sh : SeqAt.shaped (dU d) = true := shaped_fine hd.2.1 (by have := hd.2.2.1; omega)
        have she : SeqAt.shaped (dU e) = true := shaped_fine he.2.1 (by have := he.2.2.1; omega)
        have sh2 : SeqAt.shaped (dU (.tup [d, e])) = true := by
          refine shaped_fine ?_ ?_
          · show (decide (2 ≤ 1000) && (fine (dU d) && (fine (dU e) && true))) = true
            rw [hd.2.1, he.2.1]
            rfl
          · have h1 := hd.2.2.1
            have h2 := he.2.2.1
            show PyData.depthAll [dU d, dU e] + 1 ≤ 64
            simp only [PyData.depthAll]
            omega
        have d5 : (PyData.shown (dU e)).length ≤ 1000000 := Nat.le_trans he.2.2.2.2.1 (by decide)
        repeat (walk_at "u")
        refine we_xfG ?_
        repeat (walk_at "u")
        refine ⟨_, _, _, d, rfl, T.cx_NoClass, T.cn_NoClass_name, rfl, ?_⟩
        repeat (walk_at "u")
        refine wr_neD rfl rfl hd.1 hd.1 sh sh ?_
        rw [eqv_dU]
        repeat (walk_at "u")
        refine we_xfG ?_
        repeat (walk_at "u")
        refine ⟨_, _, _, d, rfl, T.cx_NoCall, T.cn_NoCall_text, rfl, ?_⟩
        repeat (walk_at "u")
        refine wr_neD rfl rfl hd.1 hd.1 sh sh ?_
        rw [eqv_dU]
        repeat (walk_at "u")
        refine we_xfG ?_
        repeat (walk_at "u")
        refine ⟨_, _, _, d, rfl, T.cx_NoTest, T.cn_NoTest_name, rfl, ?_⟩
        repeat (walk_at "u")
        refine wr_neD rfl rfl hd.1 hd.1 sh sh ?_
        rw [eqv_dU]
        repeat (walk_at "u")
        refine we_xfG ?_
        repeat (walk_at "u")
        refine ⟨_, _, _, d, rfl, T.cx_NoCheck, T.cn_NoCheck_line, rfl, ?_⟩
        repeat (walk_at "u")
        refine wr_neD rfl rfl hd.1 hd.1 sh sh ?_
        rw [eqv_dU]
        repeat (walk_at "u")
        refine we_xfG ?_
        repeat (walk_at "u")
        refine ⟨_, _, _, d, rfl, T.cx_Raised, T.cn_Raised_kind, rfl, ?_⟩
        repeat (walk_at "u")
        refine we_xfG ?_
        repeat (walk_at "u")
        refine ⟨_, _, _, e, rfl, T.cx_Raised, T.cn_Raised_cause, rfl, ?_⟩
        repeat (walk_at "u")
        refine wr_neD rfl rfl (by show (okU d && (okU e && true)) = true; rw [hd.1, he.1]; rfl) (by show (okU d && (okU e && true)) = true; rw [hd.1, he.1]; rfl) sh2 sh2 ?_
        rw [eqv_dU]
        repeat (walk_at "u")
        refine we_xfG ?_
        repeat (walk_at "u")
        refine ⟨_, _, _, e, rfl, T.cx_Raised, T.cn_Raised_cause, rfl, ?_⟩
        repeat (walk_at "u")
        refine wc_repr rfl he.1 he.2.2.2.1 (by have := he.2.2.1; omega) d5 ?_
        repeat (walk_at "u")
        refine wc_repr rfl he.1 he.2.2.2.1 (by have := he.2.2.1; omega) d5 ?_
        repeat (walk_at "u")
        rw [show decide (V.str (PyData.shown (dU e)) = V.str (PyData.shown (dU e))) = true from decide_eq_true rfl]
        repeat (walk_at "u")
        exact ⟨_, _, _, _, _, _, _, _, rfl, rfl, rfl, rfl, rfl, rfl, hz, h7, h8⟩
  · rintro ρ ⟨t1, t2, t3, t4, t5, t6, t7, t8, rfl, h1, h2, h3, h4, h5, h6, h7, h8⟩
    repeat (walk_at "u")
    exact q
theorem ok_law (T : Txt K mg) {f : Addr} {fd : FuncData} (F : Fun K "law" "law" s_law f fd) : GOk P w K mg base 9 f fd ["script"] (spLaw K) :=
  fun A outer s H us vs Q E hg hr e0 hb r h => uk_law T F A outer s H us vs Q E hg hr e0 hb r (law_of_U h)
end

theorem kit_self {K : PySem.W.Frag} {C : Addr} : PySem.W.kitOne K (.ref C) (.ref C) = some true := if_pos (beq_self_eq_true _)
theorem kit_own {K : PySem.W.Frag} {C : Addr} {n : String} (ic : PySem.W.isClsIn K C = true) (ty : PySem.W.typeIn K (.ref C) = some (.type "type")) (nf : PySem.W.notFirst K C (.type n) = true) : PySem.W.kitOne K (.type n) (.ref C) = some false := by
  have ne : (Value.type n == Value.ref C) = false := by
    rw [beq_eq_false_iff_ne]
    exact fun h => nomatch h
  have e : PySem.W.subIn K (.type n) (.ref C) = some false := by
    rcases Bool.or_eq_true_iff.mp nf with h | h
    · rw [ne] at h
      cases h
    · exact beq_iff_eq.mp h
  have h1 : (PySem.W.clsIn K C).isSome = true := by
    unfold PySem.W.isClsIn at ic
    first | exact ic | (cases h : PySem.W.clsIn K C <;> simp_all)
  unfold PySem.W.kitOne PySem.W.kitCls
  rw [if_neg (by rw [ne]; exact Bool.false_ne_true)]
  show (if ((PySem.W.clsIn K C).isSome && PySem.W.typeIn K (.ref C) == some (.type "type")) = true then PySem.W.subIn K (.type n) (.ref C) else none) = some false
  rw [if_pos (by rw [h1, ty]; rfl)]
  exact e
theorem kit_sub {K : PySem.W.Frag} {C D : Addr} {b : Bool} (ic : PySem.W.isClsIn K D = true) (ty : PySem.W.typeIn K (.ref D) = some (.type "type")) (h : PySem.W.subIn K (.ref C) (.ref D) = some b) (hs : PySem.W.subIn K (.ref C) (.ref C) = some true) : PySem.W.kitOne K (.ref C) (.ref D) = some b := by
  by_cases e : C = D
  · subst e
    rw [hs] at h
    cases h
    exact kit_self
  · have ne : (Value.ref C == Value.ref D) = false := by
      rw [beq_eq_false_iff_ne]
      exact fun h => e (Value.ref.inj h)
    have h1 : (PySem.W.clsIn K D).isSome = true := by
      unfold PySem.W.isClsIn at ic
      first | exact ic | (cases h : PySem.W.clsIn K D <;> simp_all)
    unfold PySem.W.kitOne PySem.W.kitCls
    rw [if_neg (by rw [ne]; exact Bool.false_ne_true)]
    show (if ((PySem.W.clsIn K D).isSome && PySem.W.typeIn K (.ref D) == some (.type "type")) = true then PySem.W.subIn K (.ref C) (.ref D) else none) = some b
    rw [h1, ty]
    exact h
theorem kit_subT {K : PySem.W.Frag} {C : Addr} {n : String} {b : Bool} (m : PySem.W.kitMeta n = true) (h : PySem.W.subIn K (.ref C) (.type n) = some b) : PySem.W.kitOne K (.ref C) (.type n) = some b := by
  have ne : (Value.ref C == Value.type n) = false := by
    rw [beq_eq_false_iff_ne]
    exact fun h => nomatch h
  unfold PySem.W.kitOne PySem.W.kitCls
  rw [if_neg (by rw [ne]; exact Bool.false_ne_true)]
  show (if PySem.W.kitMeta n = true then PySem.W.subIn K (.ref C) (.type n) else none) = some b
  rw [if_pos m]
  exact h

theorem all_mk {l : PySem.W.OpenLaw} {w : World} {K : PySem.W.Frag} {h : Heap} {mg : Str → Option Value} {fa : Addr} (X : K.In h) (G : h.Ns mainGlobals mg) (hfa : mg "law" = some (.ref fa))
    {f_law_bag : Addr} {od0 an0 : Option Addr} {sl0 : Array (Option Value)} {oc0 kV0 dc0 pm0 cd0 ct0 : Value}
    {f_law_take : Addr} {od1 an1 : Option Addr} {sl1 : Array (Option Value)} {oc1 kV1 dc1 pm1 cd1 ct1 : Value}
    {f_law_of : Addr} {od2 an2 : Option Addr} {sl2 : Array (Option Value)} {oc2 kV2 dc2 pm2 cd2 ct2 : Value}
    {f_law_word : Addr} {od3 an3 : Option Addr} {sl3 : Array (Option Value)} {oc3 kV3 dc3 pm3 cd3 ct3 : Value}
    {f_law_class : Addr} {od4 an4 : Option Addr} {sl4 : Array (Option Value)} {oc4 kV4 dc4 pm4 cd4 ct4 : Value}
    {f_law_any : Addr} {od5 an5 : Option Addr} {sl5 : Array (Option Value)} {oc5 kV5 dc5 pm5 cd5 ct5 : Value}
    {f_law_classes : Addr} {od6 an6 : Option Addr} {sl6 : Array (Option Value)} {oc6 kV6 dc6 pm6 cd6 ct6 : Value}
    {f_law_bases : Addr} {od7 an7 : Option Addr} {sl7 : Array (Option Value)} {oc7 kV7 dc7 pm7 cd7 ct7 : Value}
    {f_law : Addr} {od8 an8 : Option Addr} {sl8 : Array (Option Value)} {oc8 kV8 dc8 pm8 cd8 ct8 : Value}
    {W_WhatpassesError : Addr}
    {C_BadFamily : Addr}
    {I_BadFamily : Addr} {oi_BadFamily an_BadFamily : Option Addr} {osl_BadFamily : Array (Option Value)} {oc_BadFamily kV_BadFamily dc_BadFamily pm_BadFamily cd_BadFamily ct_BadFamily : Value}
    {C_BadCall : Addr}
    {I_BadCall : Addr} {oi_BadCall an_BadCall : Option Addr} {osl_BadCall : Array (Option Value)} {oc_BadCall kV_BadCall dc_BadCall pm_BadCall cd_BadCall ct_BadCall : Value}
    {C_BadTest : Addr}
    {I_BadTest : Addr} {oi_BadTest an_BadTest : Option Addr} {osl_BadTest : Array (Option Value)} {oc_BadTest kV_BadTest dc_BadTest pm_BadTest cd_BadTest ct_BadTest : Value}
    {C_BadPart : Addr}
    {I_BadPart : Addr} {oi_BadPart an_BadPart : Option Addr} {osl_BadPart : Array (Option Value)} {oc_BadPart kV_BadPart dc_BadPart pm_BadPart cd_BadPart ct_BadPart : Value}
    {C_BadSuite : Addr}
    {I_BadSuite : Addr} {oi_BadSuite an_BadSuite : Option Addr} {osl_BadSuite : Array (Option Value)} {oc_BadSuite kV_BadSuite dc_BadSuite pm_BadSuite cd_BadSuite ct_BadSuite : Value}
    {C_OtherFamily : Addr}
    {I_OtherFamily : Addr} {oi_OtherFamily an_OtherFamily : Option Addr} {osl_OtherFamily : Array (Option Value)} {oc_OtherFamily kV_OtherFamily dc_OtherFamily pm_OtherFamily cd_OtherFamily ct_OtherFamily : Value}
    {C_BadDemand : Addr}
    {I_BadDemand : Addr} {oi_BadDemand an_BadDemand : Option Addr} {osl_BadDemand : Array (Option Value)} {oc_BadDemand kV_BadDemand dc_BadDemand pm_BadDemand cd_BadDemand ct_BadDemand : Value}
    {C_BadDeed : Addr}
    {I_BadDeed : Addr} {oi_BadDeed an_BadDeed : Option Addr} {osl_BadDeed : Array (Option Value)} {oc_BadDeed kV_BadDeed dc_BadDeed pm_BadDeed cd_BadDeed ct_BadDeed : Value}
    {C_NoClass : Addr}
    {I_NoClass : Addr} {oi_NoClass an_NoClass : Option Addr} {osl_NoClass : Array (Option Value)} {oc_NoClass kV_NoClass dc_NoClass pm_NoClass cd_NoClass ct_NoClass : Value}
    {C_NoCall : Addr}
    {I_NoCall : Addr} {oi_NoCall an_NoCall : Option Addr} {osl_NoCall : Array (Option Value)} {oc_NoCall kV_NoCall dc_NoCall pm_NoCall cd_NoCall ct_NoCall : Value}
    {C_NoTest : Addr}
    {I_NoTest : Addr} {oi_NoTest an_NoTest : Option Addr} {osl_NoTest : Array (Option Value)} {oc_NoTest kV_NoTest dc_NoTest pm_NoTest cd_NoTest ct_NoTest : Value}
    {C_NoCheck : Addr}
    {I_NoCheck : Addr} {oi_NoCheck an_NoCheck : Option Addr} {osl_NoCheck : Array (Option Value)} {oc_NoCheck kV_NoCheck dc_NoCheck pm_NoCheck cd_NoCheck ct_NoCheck : Value}
    {C_NothingToUndo : Addr}
    {C_Raised : Addr}
    {I_Raised : Addr} {oi_Raised an_Raised : Option Addr} {osl_Raised : Array (Option Value)} {oc_Raised kV_Raised dc_Raised pm_Raised cd_Raised ct_Raised : Value}
    (a0 : PySem.W.nsIn K mainGlobals "_law_bag" = some (some (.ref f_law_bag)))
    (l0 : K.lookup f_law_bag = some ⟨oc0, od0, .func (PySem.W.fnOf "_law_bag" "_law_bag" (defArgs s_law_bag) (defBody s_law_bag) (defScope s_law_bag) .none kV0 dc0 pm0 an0 cd0 ct0), sl0⟩)
    (c0 : PySem.W.codeIn K cd0 "_law_bag" = true) (k0 : PySem.W.keepIn K (.ref f_law_bag) = true)
    (a1 : PySem.W.nsIn K mainGlobals "_law_take" = some (some (.ref f_law_take)))
    (l1 : K.lookup f_law_take = some ⟨oc1, od1, .func (PySem.W.fnOf "_law_take" "_law_take" (defArgs s_law_take) (defBody s_law_take) (defScope s_law_take) .none kV1 dc1 pm1 an1 cd1 ct1), sl1⟩)
    (c1 : PySem.W.codeIn K cd1 "_law_take" = true) (k1 : PySem.W.keepIn K (.ref f_law_take) = true)
    (a2 : PySem.W.nsIn K mainGlobals "_law_of" = some (some (.ref f_law_of)))
    (l2 : K.lookup f_law_of = some ⟨oc2, od2, .func (PySem.W.fnOf "_law_of" "_law_of" (defArgs s_law_of) (defBody s_law_of) (defScope s_law_of) .none kV2 dc2 pm2 an2 cd2 ct2), sl2⟩)
    (c2 : PySem.W.codeIn K cd2 "_law_of" = true) (k2 : PySem.W.keepIn K (.ref f_law_of) = true)
    (a3 : PySem.W.nsIn K mainGlobals "_law_word" = some (some (.ref f_law_word)))
    (l3 : K.lookup f_law_word = some ⟨oc3, od3, .func (PySem.W.fnOf "_law_word" "_law_word" (defArgs s_law_word) (defBody s_law_word) (defScope s_law_word) .none kV3 dc3 pm3 an3 cd3 ct3), sl3⟩)
    (c3 : PySem.W.codeIn K cd3 "_law_word" = true) (k3 : PySem.W.keepIn K (.ref f_law_word) = true)
    (a4 : PySem.W.nsIn K mainGlobals "_law_class" = some (some (.ref f_law_class)))
    (l4 : K.lookup f_law_class = some ⟨oc4, od4, .func (PySem.W.fnOf "_law_class" "_law_class" (defArgs s_law_class) (defBody s_law_class) (defScope s_law_class) .none kV4 dc4 pm4 an4 cd4 ct4), sl4⟩)
    (c4 : PySem.W.codeIn K cd4 "_law_class" = true) (k4 : PySem.W.keepIn K (.ref f_law_class) = true)
    (a5 : PySem.W.nsIn K mainGlobals "_law_any" = some (some (.ref f_law_any)))
    (l5 : K.lookup f_law_any = some ⟨oc5, od5, .func (PySem.W.fnOf "_law_any" "_law_any" (defArgs s_law_any) (defBody s_law_any) (defScope s_law_any) .none kV5 dc5 pm5 an5 cd5 ct5), sl5⟩)
    (c5 : PySem.W.codeIn K cd5 "_law_any" = true) (k5 : PySem.W.keepIn K (.ref f_law_any) = true)
    (a6 : PySem.W.nsIn K mainGlobals "_law_classes" = some (some (.ref f_law_classes)))
    (l6 : K.lookup f_law_classes = some ⟨oc6, od6, .func (PySem.W.fnOf "_law_classes" "_law_classes" (defArgs s_law_classes) (defBody s_law_classes) (defScope s_law_classes) .none kV6 dc6 pm6 an6 cd6 ct6), sl6⟩)
    (c6 : PySem.W.codeIn K cd6 "_law_classes" = true) (k6 : PySem.W.keepIn K (.ref f_law_classes) = true)
    (a7 : PySem.W.nsIn K mainGlobals "_law_bases" = some (some (.ref f_law_bases)))
    (l7 : K.lookup f_law_bases = some ⟨oc7, od7, .func (PySem.W.fnOf "_law_bases" "_law_bases" (defArgs s_law_bases) (defBody s_law_bases) (defScope s_law_bases) .none kV7 dc7 pm7 an7 cd7 ct7), sl7⟩)
    (c7 : PySem.W.codeIn K cd7 "_law_bases" = true) (k7 : PySem.W.keepIn K (.ref f_law_bases) = true)
    (a8 : PySem.W.nsIn K mainGlobals "law" = some (some (.ref f_law)))
    (l8 : K.lookup f_law = some ⟨oc8, od8, .func (PySem.W.fnOf "law" "law" (defArgs s_law) (defBody s_law) (defScope s_law) .none kV8 dc8 pm8 an8 cd8 ct8), sl8⟩)
    (c8 : PySem.W.codeIn K cd8 "law" = true) (k8 : PySem.W.keepIn K (.ref f_law) = true)
    (v0_WhatpassesError : PySem.W.nsIn K mainGlobals "WhatpassesError" = some (some (.ref W_WhatpassesError)))
    (v1_WhatpassesError : PySem.W.typeIn K (.ref W_WhatpassesError) = some (.type "type"))
    (v2_WhatpassesError : PySem.W.isClsIn K W_WhatpassesError = true)
    (e1_BadFamily : PySem.W.nsIn K mainGlobals "BadFamily" = some (some (.ref C_BadFamily)))
    (e4_BadFamily : PySem.W.findIn K (.ref C_BadFamily) "__getattribute__" = some (some (.builtin "BaseException.__getattribute__")))
    (e5_BadFamily : PySem.W.findIn K (.ref C_BadFamily) "__getattr__" = some none)
    (e12_BadFamily : PySem.W.keepIn K (.ref C_BadFamily) = true)
    (e13_BadFamily : PySem.W.subIn K (.ref C_BadFamily) (.type "BaseException") = some true)
    (e14_BadFamily : PySem.W.typeIn K (.ref C_BadFamily) = some (.type "type"))
    (e15_BadFamily : PySem.W.hasDictIn K C_BadFamily = true)
    (e16_BadFamily : PySem.W.isClsIn K C_BadFamily = true)
    (e17_BadFamily : PySem.W.subIn K (.ref C_BadFamily) (.ref C_BadFamily) = some true)
    (v4_BadFamily : PySem.W.findIn K (.ref C_BadFamily) "__class__" = some (some (.builtin "object.__class__")))
    (v5_BadFamily : PySem.W.specialIn K (.builtin "object.__class__") "__get__" = some (some (.builtin "getset_descriptor.__get__")))
    (v6_BadFamily : PySem.W.takesIn K (.builtin "object.__class__") = some true)
    (v7_BadFamily : PySem.W.mroIn K C_BadFamily (.type "object") = some true)
    (e3_BadFamily : PySem.W.findIn K (.ref C_BadFamily) "__setattr__" = some (some (.builtin "object.__setattr__")))
    (e6at_BadFamily : PySem.W.findIn K (.ref C_BadFamily) "at" = some none)
    (e7_BadFamily : PySem.W.findIn K (.ref C_BadFamily) "__init__" = some (some (.ref I_BadFamily)))
    (e8_BadFamily : PySem.W.typeIn K (.ref I_BadFamily) = some (.type "function"))
    (e9_BadFamily : K.lookup I_BadFamily = some ⟨oc_BadFamily, oi_BadFamily, .func (PySem.W.fnOf "__init__" "BadFamily.__init__" (defArgs si_BadFamily) (defBody si_BadFamily) (defScope si_BadFamily) .none kV_BadFamily dc_BadFamily pm_BadFamily an_BadFamily cd_BadFamily ct_BadFamily), osl_BadFamily⟩)
    (e10_BadFamily : PySem.W.codeIn K cd_BadFamily "BadFamily.__init__" = true)
    (e11_BadFamily : PySem.W.keepIn K (.ref I_BadFamily) = true)
    (e18_BadFamily : PySem.W.excInitIn K C_BadFamily [.type "ValueError", .type "Exception", .type "BaseException", .type "object"] "ValueError.__new__" = true)
    (e19_BadFamily : PySem.W.excOver K C_BadFamily [.type "ValueError", .type "Exception", .type "BaseException", .type "object"] = true)
    (e1_BadCall : PySem.W.nsIn K mainGlobals "BadCall" = some (some (.ref C_BadCall)))
    (e4_BadCall : PySem.W.findIn K (.ref C_BadCall) "__getattribute__" = some (some (.builtin "BaseException.__getattribute__")))
    (e5_BadCall : PySem.W.findIn K (.ref C_BadCall) "__getattr__" = some none)
    (e12_BadCall : PySem.W.keepIn K (.ref C_BadCall) = true)
    (e13_BadCall : PySem.W.subIn K (.ref C_BadCall) (.type "BaseException") = some true)
    (e14_BadCall : PySem.W.typeIn K (.ref C_BadCall) = some (.type "type"))
    (e15_BadCall : PySem.W.hasDictIn K C_BadCall = true)
    (e16_BadCall : PySem.W.isClsIn K C_BadCall = true)
    (e17_BadCall : PySem.W.subIn K (.ref C_BadCall) (.ref C_BadCall) = some true)
    (v4_BadCall : PySem.W.findIn K (.ref C_BadCall) "__class__" = some (some (.builtin "object.__class__")))
    (v5_BadCall : PySem.W.specialIn K (.builtin "object.__class__") "__get__" = some (some (.builtin "getset_descriptor.__get__")))
    (v6_BadCall : PySem.W.takesIn K (.builtin "object.__class__") = some true)
    (v7_BadCall : PySem.W.mroIn K C_BadCall (.type "object") = some true)
    (e3_BadCall : PySem.W.findIn K (.ref C_BadCall) "__setattr__" = some (some (.builtin "object.__setattr__")))
    (e6at_BadCall : PySem.W.findIn K (.ref C_BadCall) "at" = some none)
    (e7_BadCall : PySem.W.findIn K (.ref C_BadCall) "__init__" = some (some (.ref I_BadCall)))
    (e8_BadCall : PySem.W.typeIn K (.ref I_BadCall) = some (.type "function"))
    (e9_BadCall : K.lookup I_BadCall = some ⟨oc_BadCall, oi_BadCall, .func (PySem.W.fnOf "__init__" "BadCall.__init__" (defArgs si_BadCall) (defBody si_BadCall) (defScope si_BadCall) .none kV_BadCall dc_BadCall pm_BadCall an_BadCall cd_BadCall ct_BadCall), osl_BadCall⟩)
    (e10_BadCall : PySem.W.codeIn K cd_BadCall "BadCall.__init__" = true)
    (e11_BadCall : PySem.W.keepIn K (.ref I_BadCall) = true)
    (e18_BadCall : PySem.W.excInitIn K C_BadCall [.type "ValueError", .type "Exception", .type "BaseException", .type "object"] "ValueError.__new__" = true)
    (e19_BadCall : PySem.W.excOver K C_BadCall [.type "ValueError", .type "Exception", .type "BaseException", .type "object"] = true)
    (e1_BadTest : PySem.W.nsIn K mainGlobals "BadTest" = some (some (.ref C_BadTest)))
    (e4_BadTest : PySem.W.findIn K (.ref C_BadTest) "__getattribute__" = some (some (.builtin "BaseException.__getattribute__")))
    (e5_BadTest : PySem.W.findIn K (.ref C_BadTest) "__getattr__" = some none)
    (e12_BadTest : PySem.W.keepIn K (.ref C_BadTest) = true)
    (e13_BadTest : PySem.W.subIn K (.ref C_BadTest) (.type "BaseException") = some true)
    (e14_BadTest : PySem.W.typeIn K (.ref C_BadTest) = some (.type "type"))
    (e15_BadTest : PySem.W.hasDictIn K C_BadTest = true)
    (e16_BadTest : PySem.W.isClsIn K C_BadTest = true)
    (e17_BadTest : PySem.W.subIn K (.ref C_BadTest) (.ref C_BadTest) = some true)
    (v4_BadTest : PySem.W.findIn K (.ref C_BadTest) "__class__" = some (some (.builtin "object.__class__")))
    (v5_BadTest : PySem.W.specialIn K (.builtin "object.__class__") "__get__" = some (some (.builtin "getset_descriptor.__get__")))
    (v6_BadTest : PySem.W.takesIn K (.builtin "object.__class__") = some true)
    (v7_BadTest : PySem.W.mroIn K C_BadTest (.type "object") = some true)
    (e3_BadTest : PySem.W.findIn K (.ref C_BadTest) "__setattr__" = some (some (.builtin "object.__setattr__")))
    (e6at_BadTest : PySem.W.findIn K (.ref C_BadTest) "at" = some none)
    (e7_BadTest : PySem.W.findIn K (.ref C_BadTest) "__init__" = some (some (.ref I_BadTest)))
    (e8_BadTest : PySem.W.typeIn K (.ref I_BadTest) = some (.type "function"))
    (e9_BadTest : K.lookup I_BadTest = some ⟨oc_BadTest, oi_BadTest, .func (PySem.W.fnOf "__init__" "BadTest.__init__" (defArgs si_BadTest) (defBody si_BadTest) (defScope si_BadTest) .none kV_BadTest dc_BadTest pm_BadTest an_BadTest cd_BadTest ct_BadTest), osl_BadTest⟩)
    (e10_BadTest : PySem.W.codeIn K cd_BadTest "BadTest.__init__" = true)
    (e11_BadTest : PySem.W.keepIn K (.ref I_BadTest) = true)
    (e18_BadTest : PySem.W.excInitIn K C_BadTest [.type "ValueError", .type "Exception", .type "BaseException", .type "object"] "ValueError.__new__" = true)
    (e19_BadTest : PySem.W.excOver K C_BadTest [.type "ValueError", .type "Exception", .type "BaseException", .type "object"] = true)
    (e1_BadPart : PySem.W.nsIn K mainGlobals "BadPart" = some (some (.ref C_BadPart)))
    (e4_BadPart : PySem.W.findIn K (.ref C_BadPart) "__getattribute__" = some (some (.builtin "BaseException.__getattribute__")))
    (e5_BadPart : PySem.W.findIn K (.ref C_BadPart) "__getattr__" = some none)
    (e12_BadPart : PySem.W.keepIn K (.ref C_BadPart) = true)
    (e13_BadPart : PySem.W.subIn K (.ref C_BadPart) (.type "BaseException") = some true)
    (e14_BadPart : PySem.W.typeIn K (.ref C_BadPart) = some (.type "type"))
    (e15_BadPart : PySem.W.hasDictIn K C_BadPart = true)
    (e16_BadPart : PySem.W.isClsIn K C_BadPart = true)
    (e17_BadPart : PySem.W.subIn K (.ref C_BadPart) (.ref C_BadPart) = some true)
    (v4_BadPart : PySem.W.findIn K (.ref C_BadPart) "__class__" = some (some (.builtin "object.__class__")))
    (v5_BadPart : PySem.W.specialIn K (.builtin "object.__class__") "__get__" = some (some (.builtin "getset_descriptor.__get__")))
    (v6_BadPart : PySem.W.takesIn K (.builtin "object.__class__") = some true)
    (v7_BadPart : PySem.W.mroIn K C_BadPart (.type "object") = some true)
    (e3_BadPart : PySem.W.findIn K (.ref C_BadPart) "__setattr__" = some (some (.builtin "object.__setattr__")))
    (e6at_BadPart : PySem.W.findIn K (.ref C_BadPart) "at" = some none)
    (e7_BadPart : PySem.W.findIn K (.ref C_BadPart) "__init__" = some (some (.ref I_BadPart)))
    (e8_BadPart : PySem.W.typeIn K (.ref I_BadPart) = some (.type "function"))
    (e9_BadPart : K.lookup I_BadPart = some ⟨oc_BadPart, oi_BadPart, .func (PySem.W.fnOf "__init__" "BadPart.__init__" (defArgs si_BadPart) (defBody si_BadPart) (defScope si_BadPart) .none kV_BadPart dc_BadPart pm_BadPart an_BadPart cd_BadPart ct_BadPart), osl_BadPart⟩)
    (e10_BadPart : PySem.W.codeIn K cd_BadPart "BadPart.__init__" = true)
    (e11_BadPart : PySem.W.keepIn K (.ref I_BadPart) = true)
    (e18_BadPart : PySem.W.excInitIn K C_BadPart [.type "ValueError", .type "Exception", .type "BaseException", .type "object"] "ValueError.__new__" = true)
    (e19_BadPart : PySem.W.excOver K C_BadPart [.type "ValueError", .type "Exception", .type "BaseException", .type "object"] = true)
    (e1_BadSuite : PySem.W.nsIn K mainGlobals "BadSuite" = some (some (.ref C_BadSuite)))
    (e4_BadSuite : PySem.W.findIn K (.ref C_BadSuite) "__getattribute__" = some (some (.builtin "BaseException.__getattribute__")))
    (e5_BadSuite : PySem.W.findIn K (.ref C_BadSuite) "__getattr__" = some none)
    (e12_BadSuite : PySem.W.keepIn K (.ref C_BadSuite) = true)
    (e13_BadSuite : PySem.W.subIn K (.ref C_BadSuite) (.type "BaseException") = some true)
    (e14_BadSuite : PySem.W.typeIn K (.ref C_BadSuite) = some (.type "type"))
    (e15_BadSuite : PySem.W.hasDictIn K C_BadSuite = true)
    (e16_BadSuite : PySem.W.isClsIn K C_BadSuite = true)
    (e17_BadSuite : PySem.W.subIn K (.ref C_BadSuite) (.ref C_BadSuite) = some true)
    (v4_BadSuite : PySem.W.findIn K (.ref C_BadSuite) "__class__" = some (some (.builtin "object.__class__")))
    (v5_BadSuite : PySem.W.specialIn K (.builtin "object.__class__") "__get__" = some (some (.builtin "getset_descriptor.__get__")))
    (v6_BadSuite : PySem.W.takesIn K (.builtin "object.__class__") = some true)
    (v7_BadSuite : PySem.W.mroIn K C_BadSuite (.type "object") = some true)
    (e3_BadSuite : PySem.W.findIn K (.ref C_BadSuite) "__setattr__" = some (some (.builtin "object.__setattr__")))
    (e6at_BadSuite : PySem.W.findIn K (.ref C_BadSuite) "at" = some none)
    (e7_BadSuite : PySem.W.findIn K (.ref C_BadSuite) "__init__" = some (some (.ref I_BadSuite)))
    (e8_BadSuite : PySem.W.typeIn K (.ref I_BadSuite) = some (.type "function"))
    (e9_BadSuite : K.lookup I_BadSuite = some ⟨oc_BadSuite, oi_BadSuite, .func (PySem.W.fnOf "__init__" "BadSuite.__init__" (defArgs si_BadSuite) (defBody si_BadSuite) (defScope si_BadSuite) .none kV_BadSuite dc_BadSuite pm_BadSuite an_BadSuite cd_BadSuite ct_BadSuite), osl_BadSuite⟩)
    (e10_BadSuite : PySem.W.codeIn K cd_BadSuite "BadSuite.__init__" = true)
    (e11_BadSuite : PySem.W.keepIn K (.ref I_BadSuite) = true)
    (e18_BadSuite : PySem.W.excInitIn K C_BadSuite [.type "ValueError", .type "Exception", .type "BaseException", .type "object"] "ValueError.__new__" = true)
    (e19_BadSuite : PySem.W.excOver K C_BadSuite [.type "ValueError", .type "Exception", .type "BaseException", .type "object"] = true)
    (e1_OtherFamily : PySem.W.nsIn K mainGlobals "OtherFamily" = some (some (.ref C_OtherFamily)))
    (e4_OtherFamily : PySem.W.findIn K (.ref C_OtherFamily) "__getattribute__" = some (some (.builtin "BaseException.__getattribute__")))
    (e5_OtherFamily : PySem.W.findIn K (.ref C_OtherFamily) "__getattr__" = some none)
    (e12_OtherFamily : PySem.W.keepIn K (.ref C_OtherFamily) = true)
    (e13_OtherFamily : PySem.W.subIn K (.ref C_OtherFamily) (.type "BaseException") = some true)
    (e14_OtherFamily : PySem.W.typeIn K (.ref C_OtherFamily) = some (.type "type"))
    (e15_OtherFamily : PySem.W.hasDictIn K C_OtherFamily = true)
    (e16_OtherFamily : PySem.W.isClsIn K C_OtherFamily = true)
    (e17_OtherFamily : PySem.W.subIn K (.ref C_OtherFamily) (.ref C_OtherFamily) = some true)
    (v4_OtherFamily : PySem.W.findIn K (.ref C_OtherFamily) "__class__" = some (some (.builtin "object.__class__")))
    (v5_OtherFamily : PySem.W.specialIn K (.builtin "object.__class__") "__get__" = some (some (.builtin "getset_descriptor.__get__")))
    (v6_OtherFamily : PySem.W.takesIn K (.builtin "object.__class__") = some true)
    (v7_OtherFamily : PySem.W.mroIn K C_OtherFamily (.type "object") = some true)
    (e3_OtherFamily : PySem.W.findIn K (.ref C_OtherFamily) "__setattr__" = some (some (.builtin "object.__setattr__")))
    (e6at_OtherFamily : PySem.W.findIn K (.ref C_OtherFamily) "at" = some none)
    (e7_OtherFamily : PySem.W.findIn K (.ref C_OtherFamily) "__init__" = some (some (.ref I_OtherFamily)))
    (e8_OtherFamily : PySem.W.typeIn K (.ref I_OtherFamily) = some (.type "function"))
    (e9_OtherFamily : K.lookup I_OtherFamily = some ⟨oc_OtherFamily, oi_OtherFamily, .func (PySem.W.fnOf "__init__" "OtherFamily.__init__" (defArgs si_OtherFamily) (defBody si_OtherFamily) (defScope si_OtherFamily) .none kV_OtherFamily dc_OtherFamily pm_OtherFamily an_OtherFamily cd_OtherFamily ct_OtherFamily), osl_OtherFamily⟩)
    (e10_OtherFamily : PySem.W.codeIn K cd_OtherFamily "OtherFamily.__init__" = true)
    (e11_OtherFamily : PySem.W.keepIn K (.ref I_OtherFamily) = true)
    (e18_OtherFamily : PySem.W.excInitIn K C_OtherFamily [.type "ValueError", .type "Exception", .type "BaseException", .type "object"] "ValueError.__new__" = true)
    (e19_OtherFamily : PySem.W.excOver K C_OtherFamily [.type "ValueError", .type "Exception", .type "BaseException", .type "object"] = true)
    (e1_BadDemand : PySem.W.nsIn K mainGlobals "BadDemand" = some (some (.ref C_BadDemand)))
    (e4_BadDemand : PySem.W.findIn K (.ref C_BadDemand) "__getattribute__" = some (some (.builtin "BaseException.__getattribute__")))
    (e5_BadDemand : PySem.W.findIn K (.ref C_BadDemand) "__getattr__" = some none)
    (e12_BadDemand : PySem.W.keepIn K (.ref C_BadDemand) = true)
    (e13_BadDemand : PySem.W.subIn K (.ref C_BadDemand) (.type "BaseException") = some true)
    (e14_BadDemand : PySem.W.typeIn K (.ref C_BadDemand) = some (.type "type"))
    (e15_BadDemand : PySem.W.hasDictIn K C_BadDemand = true)
    (e16_BadDemand : PySem.W.isClsIn K C_BadDemand = true)
    (e17_BadDemand : PySem.W.subIn K (.ref C_BadDemand) (.ref C_BadDemand) = some true)
    (v4_BadDemand : PySem.W.findIn K (.ref C_BadDemand) "__class__" = some (some (.builtin "object.__class__")))
    (v5_BadDemand : PySem.W.specialIn K (.builtin "object.__class__") "__get__" = some (some (.builtin "getset_descriptor.__get__")))
    (v6_BadDemand : PySem.W.takesIn K (.builtin "object.__class__") = some true)
    (v7_BadDemand : PySem.W.mroIn K C_BadDemand (.type "object") = some true)
    (e3_BadDemand : PySem.W.findIn K (.ref C_BadDemand) "__setattr__" = some (some (.builtin "object.__setattr__")))
    (e6at_BadDemand : PySem.W.findIn K (.ref C_BadDemand) "at" = some none)
    (e7_BadDemand : PySem.W.findIn K (.ref C_BadDemand) "__init__" = some (some (.ref I_BadDemand)))
    (e8_BadDemand : PySem.W.typeIn K (.ref I_BadDemand) = some (.type "function"))
    (e9_BadDemand : K.lookup I_BadDemand = some ⟨oc_BadDemand, oi_BadDemand, .func (PySem.W.fnOf "__init__" "BadDemand.__init__" (defArgs si_BadDemand) (defBody si_BadDemand) (defScope si_BadDemand) .none kV_BadDemand dc_BadDemand pm_BadDemand an_BadDemand cd_BadDemand ct_BadDemand), osl_BadDemand⟩)
    (e10_BadDemand : PySem.W.codeIn K cd_BadDemand "BadDemand.__init__" = true)
    (e11_BadDemand : PySem.W.keepIn K (.ref I_BadDemand) = true)
    (e18_BadDemand : PySem.W.excInitIn K C_BadDemand [.type "ValueError", .type "Exception", .type "BaseException", .type "object"] "ValueError.__new__" = true)
    (e19_BadDemand : PySem.W.excOver K C_BadDemand [.type "ValueError", .type "Exception", .type "BaseException", .type "object"] = true)
    (e1_BadDeed : PySem.W.nsIn K mainGlobals "BadDeed" = some (some (.ref C_BadDeed)))
    (e4_BadDeed : PySem.W.findIn K (.ref C_BadDeed) "__getattribute__" = some (some (.builtin "BaseException.__getattribute__")))
    (e5_BadDeed : PySem.W.findIn K (.ref C_BadDeed) "__getattr__" = some none)
    (e12_BadDeed : PySem.W.keepIn K (.ref C_BadDeed) = true)
    (e13_BadDeed : PySem.W.subIn K (.ref C_BadDeed) (.type "BaseException") = some true)
    (e14_BadDeed : PySem.W.typeIn K (.ref C_BadDeed) = some (.type "type"))
    (e15_BadDeed : PySem.W.hasDictIn K C_BadDeed = true)
    (e16_BadDeed : PySem.W.isClsIn K C_BadDeed = true)
    (e17_BadDeed : PySem.W.subIn K (.ref C_BadDeed) (.ref C_BadDeed) = some true)
    (v4_BadDeed : PySem.W.findIn K (.ref C_BadDeed) "__class__" = some (some (.builtin "object.__class__")))
    (v5_BadDeed : PySem.W.specialIn K (.builtin "object.__class__") "__get__" = some (some (.builtin "getset_descriptor.__get__")))
    (v6_BadDeed : PySem.W.takesIn K (.builtin "object.__class__") = some true)
    (v7_BadDeed : PySem.W.mroIn K C_BadDeed (.type "object") = some true)
    (e3_BadDeed : PySem.W.findIn K (.ref C_BadDeed) "__setattr__" = some (some (.builtin "object.__setattr__")))
    (e6at_BadDeed : PySem.W.findIn K (.ref C_BadDeed) "at" = some none)
    (e7_BadDeed : PySem.W.findIn K (.ref C_BadDeed) "__init__" = some (some (.ref I_BadDeed)))
    (e8_BadDeed : PySem.W.typeIn K (.ref I_BadDeed) = some (.type "function"))
    (e9_BadDeed : K.lookup I_BadDeed = some ⟨oc_BadDeed, oi_BadDeed, .func (PySem.W.fnOf "__init__" "BadDeed.__init__" (defArgs si_BadDeed) (defBody si_BadDeed) (defScope si_BadDeed) .none kV_BadDeed dc_BadDeed pm_BadDeed an_BadDeed cd_BadDeed ct_BadDeed), osl_BadDeed⟩)
    (e10_BadDeed : PySem.W.codeIn K cd_BadDeed "BadDeed.__init__" = true)
    (e11_BadDeed : PySem.W.keepIn K (.ref I_BadDeed) = true)
    (e18_BadDeed : PySem.W.excInitIn K C_BadDeed [.type "ValueError", .type "Exception", .type "BaseException", .type "object"] "ValueError.__new__" = true)
    (e19_BadDeed : PySem.W.excOver K C_BadDeed [.type "ValueError", .type "Exception", .type "BaseException", .type "object"] = true)
    (e1_NoClass : PySem.W.nsIn K mainGlobals "NoClass" = some (some (.ref C_NoClass)))
    (e4_NoClass : PySem.W.findIn K (.ref C_NoClass) "__getattribute__" = some (some (.builtin "BaseException.__getattribute__")))
    (e5_NoClass : PySem.W.findIn K (.ref C_NoClass) "__getattr__" = some none)
    (e12_NoClass : PySem.W.keepIn K (.ref C_NoClass) = true)
    (e13_NoClass : PySem.W.subIn K (.ref C_NoClass) (.type "BaseException") = some true)
    (e14_NoClass : PySem.W.typeIn K (.ref C_NoClass) = some (.type "type"))
    (e15_NoClass : PySem.W.hasDictIn K C_NoClass = true)
    (e16_NoClass : PySem.W.isClsIn K C_NoClass = true)
    (e17_NoClass : PySem.W.subIn K (.ref C_NoClass) (.ref C_NoClass) = some true)
    (v4_NoClass : PySem.W.findIn K (.ref C_NoClass) "__class__" = some (some (.builtin "object.__class__")))
    (v5_NoClass : PySem.W.specialIn K (.builtin "object.__class__") "__get__" = some (some (.builtin "getset_descriptor.__get__")))
    (v6_NoClass : PySem.W.takesIn K (.builtin "object.__class__") = some true)
    (v7_NoClass : PySem.W.mroIn K C_NoClass (.type "object") = some true)
    (e3_NoClass : PySem.W.findIn K (.ref C_NoClass) "__setattr__" = some (some (.builtin "object.__setattr__")))
    (e6name_NoClass : PySem.W.findIn K (.ref C_NoClass) "name" = some none)
    (e7_NoClass : PySem.W.findIn K (.ref C_NoClass) "__init__" = some (some (.ref I_NoClass)))
    (e8_NoClass : PySem.W.typeIn K (.ref I_NoClass) = some (.type "function"))
    (e9_NoClass : K.lookup I_NoClass = some ⟨oc_NoClass, oi_NoClass, .func (PySem.W.fnOf "__init__" "NoClass.__init__" (defArgs si_NoClass) (defBody si_NoClass) (defScope si_NoClass) .none kV_NoClass dc_NoClass pm_NoClass an_NoClass cd_NoClass ct_NoClass), osl_NoClass⟩)
    (e10_NoClass : PySem.W.codeIn K cd_NoClass "NoClass.__init__" = true)
    (e11_NoClass : PySem.W.keepIn K (.ref I_NoClass) = true)
    (e18_NoClass : PySem.W.excInitIn K C_NoClass [.type "LookupError", .type "Exception", .type "BaseException", .type "object"] "LookupError.__new__" = true)
    (e19_NoClass : PySem.W.excOver K C_NoClass [.type "LookupError", .type "Exception", .type "BaseException", .type "object"] = true)
    (e1_NoCall : PySem.W.nsIn K mainGlobals "NoCall" = some (some (.ref C_NoCall)))
    (e4_NoCall : PySem.W.findIn K (.ref C_NoCall) "__getattribute__" = some (some (.builtin "BaseException.__getattribute__")))
    (e5_NoCall : PySem.W.findIn K (.ref C_NoCall) "__getattr__" = some none)
    (e12_NoCall : PySem.W.keepIn K (.ref C_NoCall) = true)
    (e13_NoCall : PySem.W.subIn K (.ref C_NoCall) (.type "BaseException") = some true)
    (e14_NoCall : PySem.W.typeIn K (.ref C_NoCall) = some (.type "type"))
    (e15_NoCall : PySem.W.hasDictIn K C_NoCall = true)
    (e16_NoCall : PySem.W.isClsIn K C_NoCall = true)
    (e17_NoCall : PySem.W.subIn K (.ref C_NoCall) (.ref C_NoCall) = some true)
    (v4_NoCall : PySem.W.findIn K (.ref C_NoCall) "__class__" = some (some (.builtin "object.__class__")))
    (v5_NoCall : PySem.W.specialIn K (.builtin "object.__class__") "__get__" = some (some (.builtin "getset_descriptor.__get__")))
    (v6_NoCall : PySem.W.takesIn K (.builtin "object.__class__") = some true)
    (v7_NoCall : PySem.W.mroIn K C_NoCall (.type "object") = some true)
    (e3_NoCall : PySem.W.findIn K (.ref C_NoCall) "__setattr__" = some (some (.builtin "object.__setattr__")))
    (e6text_NoCall : PySem.W.findIn K (.ref C_NoCall) "text" = some none)
    (e7_NoCall : PySem.W.findIn K (.ref C_NoCall) "__init__" = some (some (.ref I_NoCall)))
    (e8_NoCall : PySem.W.typeIn K (.ref I_NoCall) = some (.type "function"))
    (e9_NoCall : K.lookup I_NoCall = some ⟨oc_NoCall, oi_NoCall, .func (PySem.W.fnOf "__init__" "NoCall.__init__" (defArgs si_NoCall) (defBody si_NoCall) (defScope si_NoCall) .none kV_NoCall dc_NoCall pm_NoCall an_NoCall cd_NoCall ct_NoCall), osl_NoCall⟩)
    (e10_NoCall : PySem.W.codeIn K cd_NoCall "NoCall.__init__" = true)
    (e11_NoCall : PySem.W.keepIn K (.ref I_NoCall) = true)
    (e18_NoCall : PySem.W.excInitIn K C_NoCall [.type "LookupError", .type "Exception", .type "BaseException", .type "object"] "LookupError.__new__" = true)
    (e19_NoCall : PySem.W.excOver K C_NoCall [.type "LookupError", .type "Exception", .type "BaseException", .type "object"] = true)
    (e1_NoTest : PySem.W.nsIn K mainGlobals "NoTest" = some (some (.ref C_NoTest)))
    (e4_NoTest : PySem.W.findIn K (.ref C_NoTest) "__getattribute__" = some (some (.builtin "BaseException.__getattribute__")))
    (e5_NoTest : PySem.W.findIn K (.ref C_NoTest) "__getattr__" = some none)
    (e12_NoTest : PySem.W.keepIn K (.ref C_NoTest) = true)
    (e13_NoTest : PySem.W.subIn K (.ref C_NoTest) (.type "BaseException") = some true)
    (e14_NoTest : PySem.W.typeIn K (.ref C_NoTest) = some (.type "type"))
    (e15_NoTest : PySem.W.hasDictIn K C_NoTest = true)
    (e16_NoTest : PySem.W.isClsIn K C_NoTest = true)
    (e17_NoTest : PySem.W.subIn K (.ref C_NoTest) (.ref C_NoTest) = some true)
    (v4_NoTest : PySem.W.findIn K (.ref C_NoTest) "__class__" = some (some (.builtin "object.__class__")))
    (v5_NoTest : PySem.W.specialIn K (.builtin "object.__class__") "__get__" = some (some (.builtin "getset_descriptor.__get__")))
    (v6_NoTest : PySem.W.takesIn K (.builtin "object.__class__") = some true)
    (v7_NoTest : PySem.W.mroIn K C_NoTest (.type "object") = some true)
    (e3_NoTest : PySem.W.findIn K (.ref C_NoTest) "__setattr__" = some (some (.builtin "object.__setattr__")))
    (e6name_NoTest : PySem.W.findIn K (.ref C_NoTest) "name" = some none)
    (e7_NoTest : PySem.W.findIn K (.ref C_NoTest) "__init__" = some (some (.ref I_NoTest)))
    (e8_NoTest : PySem.W.typeIn K (.ref I_NoTest) = some (.type "function"))
    (e9_NoTest : K.lookup I_NoTest = some ⟨oc_NoTest, oi_NoTest, .func (PySem.W.fnOf "__init__" "NoTest.__init__" (defArgs si_NoTest) (defBody si_NoTest) (defScope si_NoTest) .none kV_NoTest dc_NoTest pm_NoTest an_NoTest cd_NoTest ct_NoTest), osl_NoTest⟩)
    (e10_NoTest : PySem.W.codeIn K cd_NoTest "NoTest.__init__" = true)
    (e11_NoTest : PySem.W.keepIn K (.ref I_NoTest) = true)
    (e18_NoTest : PySem.W.excInitIn K C_NoTest [.type "LookupError", .type "Exception", .type "BaseException", .type "object"] "LookupError.__new__" = true)
    (e19_NoTest : PySem.W.excOver K C_NoTest [.type "LookupError", .type "Exception", .type "BaseException", .type "object"] = true)
    (e1_NoCheck : PySem.W.nsIn K mainGlobals "NoCheck" = some (some (.ref C_NoCheck)))
    (e4_NoCheck : PySem.W.findIn K (.ref C_NoCheck) "__getattribute__" = some (some (.builtin "BaseException.__getattribute__")))
    (e5_NoCheck : PySem.W.findIn K (.ref C_NoCheck) "__getattr__" = some none)
    (e12_NoCheck : PySem.W.keepIn K (.ref C_NoCheck) = true)
    (e13_NoCheck : PySem.W.subIn K (.ref C_NoCheck) (.type "BaseException") = some true)
    (e14_NoCheck : PySem.W.typeIn K (.ref C_NoCheck) = some (.type "type"))
    (e15_NoCheck : PySem.W.hasDictIn K C_NoCheck = true)
    (e16_NoCheck : PySem.W.isClsIn K C_NoCheck = true)
    (e17_NoCheck : PySem.W.subIn K (.ref C_NoCheck) (.ref C_NoCheck) = some true)
    (v4_NoCheck : PySem.W.findIn K (.ref C_NoCheck) "__class__" = some (some (.builtin "object.__class__")))
    (v5_NoCheck : PySem.W.specialIn K (.builtin "object.__class__") "__get__" = some (some (.builtin "getset_descriptor.__get__")))
    (v6_NoCheck : PySem.W.takesIn K (.builtin "object.__class__") = some true)
    (v7_NoCheck : PySem.W.mroIn K C_NoCheck (.type "object") = some true)
    (e3_NoCheck : PySem.W.findIn K (.ref C_NoCheck) "__setattr__" = some (some (.builtin "object.__setattr__")))
    (e6line_NoCheck : PySem.W.findIn K (.ref C_NoCheck) "line" = some none)
    (e7_NoCheck : PySem.W.findIn K (.ref C_NoCheck) "__init__" = some (some (.ref I_NoCheck)))
    (e8_NoCheck : PySem.W.typeIn K (.ref I_NoCheck) = some (.type "function"))
    (e9_NoCheck : K.lookup I_NoCheck = some ⟨oc_NoCheck, oi_NoCheck, .func (PySem.W.fnOf "__init__" "NoCheck.__init__" (defArgs si_NoCheck) (defBody si_NoCheck) (defScope si_NoCheck) .none kV_NoCheck dc_NoCheck pm_NoCheck an_NoCheck cd_NoCheck ct_NoCheck), osl_NoCheck⟩)
    (e10_NoCheck : PySem.W.codeIn K cd_NoCheck "NoCheck.__init__" = true)
    (e11_NoCheck : PySem.W.keepIn K (.ref I_NoCheck) = true)
    (e18_NoCheck : PySem.W.excInitIn K C_NoCheck [.type "LookupError", .type "Exception", .type "BaseException", .type "object"] "LookupError.__new__" = true)
    (e19_NoCheck : PySem.W.excOver K C_NoCheck [.type "LookupError", .type "Exception", .type "BaseException", .type "object"] = true)
    (e1_NothingToUndo : PySem.W.nsIn K mainGlobals "NothingToUndo" = some (some (.ref C_NothingToUndo)))
    (e4_NothingToUndo : PySem.W.findIn K (.ref C_NothingToUndo) "__getattribute__" = some (some (.builtin "BaseException.__getattribute__")))
    (e5_NothingToUndo : PySem.W.findIn K (.ref C_NothingToUndo) "__getattr__" = some none)
    (e12_NothingToUndo : PySem.W.keepIn K (.ref C_NothingToUndo) = true)
    (e13_NothingToUndo : PySem.W.subIn K (.ref C_NothingToUndo) (.type "BaseException") = some true)
    (e14_NothingToUndo : PySem.W.typeIn K (.ref C_NothingToUndo) = some (.type "type"))
    (e15_NothingToUndo : PySem.W.hasDictIn K C_NothingToUndo = true)
    (e16_NothingToUndo : PySem.W.isClsIn K C_NothingToUndo = true)
    (e17_NothingToUndo : PySem.W.subIn K (.ref C_NothingToUndo) (.ref C_NothingToUndo) = some true)
    (v4_NothingToUndo : PySem.W.findIn K (.ref C_NothingToUndo) "__class__" = some (some (.builtin "object.__class__")))
    (v5_NothingToUndo : PySem.W.specialIn K (.builtin "object.__class__") "__get__" = some (some (.builtin "getset_descriptor.__get__")))
    (v6_NothingToUndo : PySem.W.takesIn K (.builtin "object.__class__") = some true)
    (v7_NothingToUndo : PySem.W.mroIn K C_NothingToUndo (.type "object") = some true)
    (e20_NothingToUndo : PySem.W.excIn K C_NothingToUndo [.type "LookupError", .type "Exception", .type "BaseException", .type "object"] "LookupError.__new__" = true)
    (e1_Raised : PySem.W.nsIn K mainGlobals "Raised" = some (some (.ref C_Raised)))
    (e4_Raised : PySem.W.findIn K (.ref C_Raised) "__getattribute__" = some (some (.builtin "BaseException.__getattribute__")))
    (e5_Raised : PySem.W.findIn K (.ref C_Raised) "__getattr__" = some none)
    (e12_Raised : PySem.W.keepIn K (.ref C_Raised) = true)
    (e13_Raised : PySem.W.subIn K (.ref C_Raised) (.type "BaseException") = some true)
    (e14_Raised : PySem.W.typeIn K (.ref C_Raised) = some (.type "type"))
    (e15_Raised : PySem.W.hasDictIn K C_Raised = true)
    (e16_Raised : PySem.W.isClsIn K C_Raised = true)
    (e17_Raised : PySem.W.subIn K (.ref C_Raised) (.ref C_Raised) = some true)
    (v4_Raised : PySem.W.findIn K (.ref C_Raised) "__class__" = some (some (.builtin "object.__class__")))
    (v5_Raised : PySem.W.specialIn K (.builtin "object.__class__") "__get__" = some (some (.builtin "getset_descriptor.__get__")))
    (v6_Raised : PySem.W.takesIn K (.builtin "object.__class__") = some true)
    (v7_Raised : PySem.W.mroIn K C_Raised (.type "object") = some true)
    (e3_Raised : PySem.W.findIn K (.ref C_Raised) "__setattr__" = some (some (.builtin "object.__setattr__")))
    (e6kind_Raised : PySem.W.findIn K (.ref C_Raised) "kind" = some none)
    (e6cause_Raised : PySem.W.findIn K (.ref C_Raised) "cause" = some none)
    (e7_Raised : PySem.W.findIn K (.ref C_Raised) "__init__" = some (some (.ref I_Raised)))
    (e8_Raised : PySem.W.typeIn K (.ref I_Raised) = some (.type "function"))
    (e9_Raised : K.lookup I_Raised = some ⟨oc_Raised, oi_Raised, .func (PySem.W.fnOf "__init__" "Raised.__init__" (defArgs si_Raised) (defBody si_Raised) (defScope si_Raised) .none kV_Raised dc_Raised pm_Raised an_Raised cd_Raised ct_Raised), osl_Raised⟩)
    (e10_Raised : PySem.W.codeIn K cd_Raised "Raised.__init__" = true)
    (e11_Raised : PySem.W.keepIn K (.ref I_Raised) = true)
    (e18_Raised : PySem.W.excInitIn K C_Raised [.type "RuntimeError", .type "Exception", .type "BaseException", .type "object"] "RuntimeError.__new__" = true)
    (e19_Raised : PySem.W.excOver K C_Raised [.type "RuntimeError", .type "Exception", .type "BaseException", .type "object"] = true)
    (k_BadFamily_BadFamily : PySem.W.subIn K (.ref C_BadFamily) (.ref C_BadFamily) = some true)
    (k_BadFamily_BadCall : PySem.W.subIn K (.ref C_BadFamily) (.ref C_BadCall) = some false)
    (k_BadFamily_BadTest : PySem.W.subIn K (.ref C_BadFamily) (.ref C_BadTest) = some false)
    (k_BadFamily_BadPart : PySem.W.subIn K (.ref C_BadFamily) (.ref C_BadPart) = some false)
    (k_BadFamily_BadSuite : PySem.W.subIn K (.ref C_BadFamily) (.ref C_BadSuite) = some false)
    (k_BadFamily_OtherFamily : PySem.W.subIn K (.ref C_BadFamily) (.ref C_OtherFamily) = some false)
    (k_BadFamily_BadDemand : PySem.W.subIn K (.ref C_BadFamily) (.ref C_BadDemand) = some false)
    (k_BadFamily_BadDeed : PySem.W.subIn K (.ref C_BadFamily) (.ref C_BadDeed) = some false)
    (k_BadFamily_NoClass : PySem.W.subIn K (.ref C_BadFamily) (.ref C_NoClass) = some false)
    (k_BadFamily_NoCall : PySem.W.subIn K (.ref C_BadFamily) (.ref C_NoCall) = some false)
    (k_BadFamily_NoTest : PySem.W.subIn K (.ref C_BadFamily) (.ref C_NoTest) = some false)
    (k_BadFamily_NoCheck : PySem.W.subIn K (.ref C_BadFamily) (.ref C_NoCheck) = some false)
    (k_BadFamily_NothingToUndo : PySem.W.subIn K (.ref C_BadFamily) (.ref C_NothingToUndo) = some false)
    (k_BadFamily_Raised : PySem.W.subIn K (.ref C_BadFamily) (.ref C_Raised) = some false)
    (k_BadFamily_WhatpassesError : PySem.W.subIn K (.ref C_BadFamily) (.ref W_WhatpassesError) = some true)
    (k_BadFamily_ValueError : PySem.W.subIn K (.ref C_BadFamily) (.type "ValueError") = some true)
    (k_BadFamily_LookupError : PySem.W.subIn K (.ref C_BadFamily) (.type "LookupError") = some false)
    (k_BadFamily_RuntimeError : PySem.W.subIn K (.ref C_BadFamily) (.type "RuntimeError") = some false)
    (k_BadFamily_KeyError : PySem.W.subIn K (.ref C_BadFamily) (.type "KeyError") = some false)
    (k_BadFamily_IndexError : PySem.W.subIn K (.ref C_BadFamily) (.type "IndexError") = some false)
    (k_BadFamily_NotImplementedError : PySem.W.subIn K (.ref C_BadFamily) (.type "NotImplementedError") = some false)
    (k_BadCall_BadFamily : PySem.W.subIn K (.ref C_BadCall) (.ref C_BadFamily) = some false)
    (k_BadCall_BadCall : PySem.W.subIn K (.ref C_BadCall) (.ref C_BadCall) = some true)
    (k_BadCall_BadTest : PySem.W.subIn K (.ref C_BadCall) (.ref C_BadTest) = some false)
    (k_BadCall_BadPart : PySem.W.subIn K (.ref C_BadCall) (.ref C_BadPart) = some false)
    (k_BadCall_BadSuite : PySem.W.subIn K (.ref C_BadCall) (.ref C_BadSuite) = some false)
    (k_BadCall_OtherFamily : PySem.W.subIn K (.ref C_BadCall) (.ref C_OtherFamily) = some false)
    (k_BadCall_BadDemand : PySem.W.subIn K (.ref C_BadCall) (.ref C_BadDemand) = some false)
    (k_BadCall_BadDeed : PySem.W.subIn K (.ref C_BadCall) (.ref C_BadDeed) = some false)
    (k_BadCall_NoClass : PySem.W.subIn K (.ref C_BadCall) (.ref C_NoClass) = some false)
    (k_BadCall_NoCall : PySem.W.subIn K (.ref C_BadCall) (.ref C_NoCall) = some false)
    (k_BadCall_NoTest : PySem.W.subIn K (.ref C_BadCall) (.ref C_NoTest) = some false)
    (k_BadCall_NoCheck : PySem.W.subIn K (.ref C_BadCall) (.ref C_NoCheck) = some false)
    (k_BadCall_NothingToUndo : PySem.W.subIn K (.ref C_BadCall) (.ref C_NothingToUndo) = some false)
    (k_BadCall_Raised : PySem.W.subIn K (.ref C_BadCall) (.ref C_Raised) = some false)
    (k_BadCall_WhatpassesError : PySem.W.subIn K (.ref C_BadCall) (.ref W_WhatpassesError) = some true)
    (k_BadCall_ValueError : PySem.W.subIn K (.ref C_BadCall) (.type "ValueError") = some true)
    (k_BadCall_LookupError : PySem.W.subIn K (.ref C_BadCall) (.type "LookupError") = some false)
    (k_BadCall_RuntimeError : PySem.W.subIn K (.ref C_BadCall) (.type "RuntimeError") = some false)
    (k_BadCall_KeyError : PySem.W.subIn K (.ref C_BadCall) (.type "KeyError") = some false)
    (k_BadCall_IndexError : PySem.W.subIn K (.ref C_BadCall) (.type "IndexError") = some false)
    (k_BadCall_NotImplementedError : PySem.W.subIn K (.ref C_BadCall) (.type "NotImplementedError") = some false)
    (k_BadTest_BadFamily : PySem.W.subIn K (.ref C_BadTest) (.ref C_BadFamily) = some false)
    (k_BadTest_BadCall : PySem.W.subIn K (.ref C_BadTest) (.ref C_BadCall) = some false)
    (k_BadTest_BadTest : PySem.W.subIn K (.ref C_BadTest) (.ref C_BadTest) = some true)
    (k_BadTest_BadPart : PySem.W.subIn K (.ref C_BadTest) (.ref C_BadPart) = some false)
    (k_BadTest_BadSuite : PySem.W.subIn K (.ref C_BadTest) (.ref C_BadSuite) = some false)
    (k_BadTest_OtherFamily : PySem.W.subIn K (.ref C_BadTest) (.ref C_OtherFamily) = some false)
    (k_BadTest_BadDemand : PySem.W.subIn K (.ref C_BadTest) (.ref C_BadDemand) = some false)
    (k_BadTest_BadDeed : PySem.W.subIn K (.ref C_BadTest) (.ref C_BadDeed) = some false)
    (k_BadTest_NoClass : PySem.W.subIn K (.ref C_BadTest) (.ref C_NoClass) = some false)
    (k_BadTest_NoCall : PySem.W.subIn K (.ref C_BadTest) (.ref C_NoCall) = some false)
    (k_BadTest_NoTest : PySem.W.subIn K (.ref C_BadTest) (.ref C_NoTest) = some false)
    (k_BadTest_NoCheck : PySem.W.subIn K (.ref C_BadTest) (.ref C_NoCheck) = some false)
    (k_BadTest_NothingToUndo : PySem.W.subIn K (.ref C_BadTest) (.ref C_NothingToUndo) = some false)
    (k_BadTest_Raised : PySem.W.subIn K (.ref C_BadTest) (.ref C_Raised) = some false)
    (k_BadTest_WhatpassesError : PySem.W.subIn K (.ref C_BadTest) (.ref W_WhatpassesError) = some true)
    (k_BadTest_ValueError : PySem.W.subIn K (.ref C_BadTest) (.type "ValueError") = some true)
    (k_BadTest_LookupError : PySem.W.subIn K (.ref C_BadTest) (.type "LookupError") = some false)
    (k_BadTest_RuntimeError : PySem.W.subIn K (.ref C_BadTest) (.type "RuntimeError") = some false)
    (k_BadTest_KeyError : PySem.W.subIn K (.ref C_BadTest) (.type "KeyError") = some false)
    (k_BadTest_IndexError : PySem.W.subIn K (.ref C_BadTest) (.type "IndexError") = some false)
    (k_BadTest_NotImplementedError : PySem.W.subIn K (.ref C_BadTest) (.type "NotImplementedError") = some false)
    (k_BadPart_BadFamily : PySem.W.subIn K (.ref C_BadPart) (.ref C_BadFamily) = some false)
    (k_BadPart_BadCall : PySem.W.subIn K (.ref C_BadPart) (.ref C_BadCall) = some false)
    (k_BadPart_BadTest : PySem.W.subIn K (.ref C_BadPart) (.ref C_BadTest) = some false)
    (k_BadPart_BadPart : PySem.W.subIn K (.ref C_BadPart) (.ref C_BadPart) = some true)
    (k_BadPart_BadSuite : PySem.W.subIn K (.ref C_BadPart) (.ref C_BadSuite) = some false)
    (k_BadPart_OtherFamily : PySem.W.subIn K (.ref C_BadPart) (.ref C_OtherFamily) = some false)
    (k_BadPart_BadDemand : PySem.W.subIn K (.ref C_BadPart) (.ref C_BadDemand) = some false)
    (k_BadPart_BadDeed : PySem.W.subIn K (.ref C_BadPart) (.ref C_BadDeed) = some false)
    (k_BadPart_NoClass : PySem.W.subIn K (.ref C_BadPart) (.ref C_NoClass) = some false)
    (k_BadPart_NoCall : PySem.W.subIn K (.ref C_BadPart) (.ref C_NoCall) = some false)
    (k_BadPart_NoTest : PySem.W.subIn K (.ref C_BadPart) (.ref C_NoTest) = some false)
    (k_BadPart_NoCheck : PySem.W.subIn K (.ref C_BadPart) (.ref C_NoCheck) = some false)
    (k_BadPart_NothingToUndo : PySem.W.subIn K (.ref C_BadPart) (.ref C_NothingToUndo) = some false)
    (k_BadPart_Raised : PySem.W.subIn K (.ref C_BadPart) (.ref C_Raised) = some false)
    (k_BadPart_WhatpassesError : PySem.W.subIn K (.ref C_BadPart) (.ref W_WhatpassesError) = some true)
    (k_BadPart_ValueError : PySem.W.subIn K (.ref C_BadPart) (.type "ValueError") = some true)
    (k_BadPart_LookupError : PySem.W.subIn K (.ref C_BadPart) (.type "LookupError") = some false)
    (k_BadPart_RuntimeError : PySem.W.subIn K (.ref C_BadPart) (.type "RuntimeError") = some false)
    (k_BadPart_KeyError : PySem.W.subIn K (.ref C_BadPart) (.type "KeyError") = some false)
    (k_BadPart_IndexError : PySem.W.subIn K (.ref C_BadPart) (.type "IndexError") = some false)
    (k_BadPart_NotImplementedError : PySem.W.subIn K (.ref C_BadPart) (.type "NotImplementedError") = some false)
    (k_BadSuite_BadFamily : PySem.W.subIn K (.ref C_BadSuite) (.ref C_BadFamily) = some false)
    (k_BadSuite_BadCall : PySem.W.subIn K (.ref C_BadSuite) (.ref C_BadCall) = some false)
    (k_BadSuite_BadTest : PySem.W.subIn K (.ref C_BadSuite) (.ref C_BadTest) = some false)
    (k_BadSuite_BadPart : PySem.W.subIn K (.ref C_BadSuite) (.ref C_BadPart) = some false)
    (k_BadSuite_BadSuite : PySem.W.subIn K (.ref C_BadSuite) (.ref C_BadSuite) = some true)
    (k_BadSuite_OtherFamily : PySem.W.subIn K (.ref C_BadSuite) (.ref C_OtherFamily) = some false)
    (k_BadSuite_BadDemand : PySem.W.subIn K (.ref C_BadSuite) (.ref C_BadDemand) = some false)
    (k_BadSuite_BadDeed : PySem.W.subIn K (.ref C_BadSuite) (.ref C_BadDeed) = some false)
    (k_BadSuite_NoClass : PySem.W.subIn K (.ref C_BadSuite) (.ref C_NoClass) = some false)
    (k_BadSuite_NoCall : PySem.W.subIn K (.ref C_BadSuite) (.ref C_NoCall) = some false)
    (k_BadSuite_NoTest : PySem.W.subIn K (.ref C_BadSuite) (.ref C_NoTest) = some false)
    (k_BadSuite_NoCheck : PySem.W.subIn K (.ref C_BadSuite) (.ref C_NoCheck) = some false)
    (k_BadSuite_NothingToUndo : PySem.W.subIn K (.ref C_BadSuite) (.ref C_NothingToUndo) = some false)
    (k_BadSuite_Raised : PySem.W.subIn K (.ref C_BadSuite) (.ref C_Raised) = some false)
    (k_BadSuite_WhatpassesError : PySem.W.subIn K (.ref C_BadSuite) (.ref W_WhatpassesError) = some true)
    (k_BadSuite_ValueError : PySem.W.subIn K (.ref C_BadSuite) (.type "ValueError") = some true)
    (k_BadSuite_LookupError : PySem.W.subIn K (.ref C_BadSuite) (.type "LookupError") = some false)
    (k_BadSuite_RuntimeError : PySem.W.subIn K (.ref C_BadSuite) (.type "RuntimeError") = some false)
    (k_BadSuite_KeyError : PySem.W.subIn K (.ref C_BadSuite) (.type "KeyError") = some false)
    (k_BadSuite_IndexError : PySem.W.subIn K (.ref C_BadSuite) (.type "IndexError") = some false)
    (k_BadSuite_NotImplementedError : PySem.W.subIn K (.ref C_BadSuite) (.type "NotImplementedError") = some false)
    (k_OtherFamily_BadFamily : PySem.W.subIn K (.ref C_OtherFamily) (.ref C_BadFamily) = some false)
    (k_OtherFamily_BadCall : PySem.W.subIn K (.ref C_OtherFamily) (.ref C_BadCall) = some false)
    (k_OtherFamily_BadTest : PySem.W.subIn K (.ref C_OtherFamily) (.ref C_BadTest) = some false)
    (k_OtherFamily_BadPart : PySem.W.subIn K (.ref C_OtherFamily) (.ref C_BadPart) = some false)
    (k_OtherFamily_BadSuite : PySem.W.subIn K (.ref C_OtherFamily) (.ref C_BadSuite) = some false)
    (k_OtherFamily_OtherFamily : PySem.W.subIn K (.ref C_OtherFamily) (.ref C_OtherFamily) = some true)
    (k_OtherFamily_BadDemand : PySem.W.subIn K (.ref C_OtherFamily) (.ref C_BadDemand) = some false)
    (k_OtherFamily_BadDeed : PySem.W.subIn K (.ref C_OtherFamily) (.ref C_BadDeed) = some false)
    (k_OtherFamily_NoClass : PySem.W.subIn K (.ref C_OtherFamily) (.ref C_NoClass) = some false)
    (k_OtherFamily_NoCall : PySem.W.subIn K (.ref C_OtherFamily) (.ref C_NoCall) = some false)
    (k_OtherFamily_NoTest : PySem.W.subIn K (.ref C_OtherFamily) (.ref C_NoTest) = some false)
    (k_OtherFamily_NoCheck : PySem.W.subIn K (.ref C_OtherFamily) (.ref C_NoCheck) = some false)
    (k_OtherFamily_NothingToUndo : PySem.W.subIn K (.ref C_OtherFamily) (.ref C_NothingToUndo) = some false)
    (k_OtherFamily_Raised : PySem.W.subIn K (.ref C_OtherFamily) (.ref C_Raised) = some false)
    (k_OtherFamily_WhatpassesError : PySem.W.subIn K (.ref C_OtherFamily) (.ref W_WhatpassesError) = some true)
    (k_OtherFamily_ValueError : PySem.W.subIn K (.ref C_OtherFamily) (.type "ValueError") = some true)
    (k_OtherFamily_LookupError : PySem.W.subIn K (.ref C_OtherFamily) (.type "LookupError") = some false)
    (k_OtherFamily_RuntimeError : PySem.W.subIn K (.ref C_OtherFamily) (.type "RuntimeError") = some false)
    (k_OtherFamily_KeyError : PySem.W.subIn K (.ref C_OtherFamily) (.type "KeyError") = some false)
    (k_OtherFamily_IndexError : PySem.W.subIn K (.ref C_OtherFamily) (.type "IndexError") = some false)
    (k_OtherFamily_NotImplementedError : PySem.W.subIn K (.ref C_OtherFamily) (.type "NotImplementedError") = some false)
    (k_BadDemand_BadFamily : PySem.W.subIn K (.ref C_BadDemand) (.ref C_BadFamily) = some false)
    (k_BadDemand_BadCall : PySem.W.subIn K (.ref C_BadDemand) (.ref C_BadCall) = some false)
    (k_BadDemand_BadTest : PySem.W.subIn K (.ref C_BadDemand) (.ref C_BadTest) = some false)
    (k_BadDemand_BadPart : PySem.W.subIn K (.ref C_BadDemand) (.ref C_BadPart) = some false)
    (k_BadDemand_BadSuite : PySem.W.subIn K (.ref C_BadDemand) (.ref C_BadSuite) = some false)
    (k_BadDemand_OtherFamily : PySem.W.subIn K (.ref C_BadDemand) (.ref C_OtherFamily) = some false)
    (k_BadDemand_BadDemand : PySem.W.subIn K (.ref C_BadDemand) (.ref C_BadDemand) = some true)
    (k_BadDemand_BadDeed : PySem.W.subIn K (.ref C_BadDemand) (.ref C_BadDeed) = some false)
    (k_BadDemand_NoClass : PySem.W.subIn K (.ref C_BadDemand) (.ref C_NoClass) = some false)
    (k_BadDemand_NoCall : PySem.W.subIn K (.ref C_BadDemand) (.ref C_NoCall) = some false)
    (k_BadDemand_NoTest : PySem.W.subIn K (.ref C_BadDemand) (.ref C_NoTest) = some false)
    (k_BadDemand_NoCheck : PySem.W.subIn K (.ref C_BadDemand) (.ref C_NoCheck) = some false)
    (k_BadDemand_NothingToUndo : PySem.W.subIn K (.ref C_BadDemand) (.ref C_NothingToUndo) = some false)
    (k_BadDemand_Raised : PySem.W.subIn K (.ref C_BadDemand) (.ref C_Raised) = some false)
    (k_BadDemand_WhatpassesError : PySem.W.subIn K (.ref C_BadDemand) (.ref W_WhatpassesError) = some true)
    (k_BadDemand_ValueError : PySem.W.subIn K (.ref C_BadDemand) (.type "ValueError") = some true)
    (k_BadDemand_LookupError : PySem.W.subIn K (.ref C_BadDemand) (.type "LookupError") = some false)
    (k_BadDemand_RuntimeError : PySem.W.subIn K (.ref C_BadDemand) (.type "RuntimeError") = some false)
    (k_BadDemand_KeyError : PySem.W.subIn K (.ref C_BadDemand) (.type "KeyError") = some false)
    (k_BadDemand_IndexError : PySem.W.subIn K (.ref C_BadDemand) (.type "IndexError") = some false)
    (k_BadDemand_NotImplementedError : PySem.W.subIn K (.ref C_BadDemand) (.type "NotImplementedError") = some false)
    (k_BadDeed_BadFamily : PySem.W.subIn K (.ref C_BadDeed) (.ref C_BadFamily) = some false)
    (k_BadDeed_BadCall : PySem.W.subIn K (.ref C_BadDeed) (.ref C_BadCall) = some false)
    (k_BadDeed_BadTest : PySem.W.subIn K (.ref C_BadDeed) (.ref C_BadTest) = some false)
    (k_BadDeed_BadPart : PySem.W.subIn K (.ref C_BadDeed) (.ref C_BadPart) = some false)
    (k_BadDeed_BadSuite : PySem.W.subIn K (.ref C_BadDeed) (.ref C_BadSuite) = some false)
    (k_BadDeed_OtherFamily : PySem.W.subIn K (.ref C_BadDeed) (.ref C_OtherFamily) = some false)
    (k_BadDeed_BadDemand : PySem.W.subIn K (.ref C_BadDeed) (.ref C_BadDemand) = some false)
    (k_BadDeed_BadDeed : PySem.W.subIn K (.ref C_BadDeed) (.ref C_BadDeed) = some true)
    (k_BadDeed_NoClass : PySem.W.subIn K (.ref C_BadDeed) (.ref C_NoClass) = some false)
    (k_BadDeed_NoCall : PySem.W.subIn K (.ref C_BadDeed) (.ref C_NoCall) = some false)
    (k_BadDeed_NoTest : PySem.W.subIn K (.ref C_BadDeed) (.ref C_NoTest) = some false)
    (k_BadDeed_NoCheck : PySem.W.subIn K (.ref C_BadDeed) (.ref C_NoCheck) = some false)
    (k_BadDeed_NothingToUndo : PySem.W.subIn K (.ref C_BadDeed) (.ref C_NothingToUndo) = some false)
    (k_BadDeed_Raised : PySem.W.subIn K (.ref C_BadDeed) (.ref C_Raised) = some false)
    (k_BadDeed_WhatpassesError : PySem.W.subIn K (.ref C_BadDeed) (.ref W_WhatpassesError) = some true)
    (k_BadDeed_ValueError : PySem.W.subIn K (.ref C_BadDeed) (.type "ValueError") = some true)
    (k_BadDeed_LookupError : PySem.W.subIn K (.ref C_BadDeed) (.type "LookupError") = some false)
    (k_BadDeed_RuntimeError : PySem.W.subIn K (.ref C_BadDeed) (.type "RuntimeError") = some false)
    (k_BadDeed_KeyError : PySem.W.subIn K (.ref C_BadDeed) (.type "KeyError") = some false)
    (k_BadDeed_IndexError : PySem.W.subIn K (.ref C_BadDeed) (.type "IndexError") = some false)
    (k_BadDeed_NotImplementedError : PySem.W.subIn K (.ref C_BadDeed) (.type "NotImplementedError") = some false)
    (k_NoClass_BadFamily : PySem.W.subIn K (.ref C_NoClass) (.ref C_BadFamily) = some false)
    (k_NoClass_BadCall : PySem.W.subIn K (.ref C_NoClass) (.ref C_BadCall) = some false)
    (k_NoClass_BadTest : PySem.W.subIn K (.ref C_NoClass) (.ref C_BadTest) = some false)
    (k_NoClass_BadPart : PySem.W.subIn K (.ref C_NoClass) (.ref C_BadPart) = some false)
    (k_NoClass_BadSuite : PySem.W.subIn K (.ref C_NoClass) (.ref C_BadSuite) = some false)
    (k_NoClass_OtherFamily : PySem.W.subIn K (.ref C_NoClass) (.ref C_OtherFamily) = some false)
    (k_NoClass_BadDemand : PySem.W.subIn K (.ref C_NoClass) (.ref C_BadDemand) = some false)
    (k_NoClass_BadDeed : PySem.W.subIn K (.ref C_NoClass) (.ref C_BadDeed) = some false)
    (k_NoClass_NoClass : PySem.W.subIn K (.ref C_NoClass) (.ref C_NoClass) = some true)
    (k_NoClass_NoCall : PySem.W.subIn K (.ref C_NoClass) (.ref C_NoCall) = some false)
    (k_NoClass_NoTest : PySem.W.subIn K (.ref C_NoClass) (.ref C_NoTest) = some false)
    (k_NoClass_NoCheck : PySem.W.subIn K (.ref C_NoClass) (.ref C_NoCheck) = some false)
    (k_NoClass_NothingToUndo : PySem.W.subIn K (.ref C_NoClass) (.ref C_NothingToUndo) = some false)
    (k_NoClass_Raised : PySem.W.subIn K (.ref C_NoClass) (.ref C_Raised) = some false)
    (k_NoClass_WhatpassesError : PySem.W.subIn K (.ref C_NoClass) (.ref W_WhatpassesError) = some false)
    (k_NoClass_ValueError : PySem.W.subIn K (.ref C_NoClass) (.type "ValueError") = some false)
    (k_NoClass_LookupError : PySem.W.subIn K (.ref C_NoClass) (.type "LookupError") = some true)
    (k_NoClass_RuntimeError : PySem.W.subIn K (.ref C_NoClass) (.type "RuntimeError") = some false)
    (k_NoClass_KeyError : PySem.W.subIn K (.ref C_NoClass) (.type "KeyError") = some false)
    (k_NoClass_IndexError : PySem.W.subIn K (.ref C_NoClass) (.type "IndexError") = some false)
    (k_NoClass_NotImplementedError : PySem.W.subIn K (.ref C_NoClass) (.type "NotImplementedError") = some false)
    (k_NoCall_BadFamily : PySem.W.subIn K (.ref C_NoCall) (.ref C_BadFamily) = some false)
    (k_NoCall_BadCall : PySem.W.subIn K (.ref C_NoCall) (.ref C_BadCall) = some false)
    (k_NoCall_BadTest : PySem.W.subIn K (.ref C_NoCall) (.ref C_BadTest) = some false)
    (k_NoCall_BadPart : PySem.W.subIn K (.ref C_NoCall) (.ref C_BadPart) = some false)
    (k_NoCall_BadSuite : PySem.W.subIn K (.ref C_NoCall) (.ref C_BadSuite) = some false)
    (k_NoCall_OtherFamily : PySem.W.subIn K (.ref C_NoCall) (.ref C_OtherFamily) = some false)
    (k_NoCall_BadDemand : PySem.W.subIn K (.ref C_NoCall) (.ref C_BadDemand) = some false)
    (k_NoCall_BadDeed : PySem.W.subIn K (.ref C_NoCall) (.ref C_BadDeed) = some false)
    (k_NoCall_NoClass : PySem.W.subIn K (.ref C_NoCall) (.ref C_NoClass) = some false)
    (k_NoCall_NoCall : PySem.W.subIn K (.ref C_NoCall) (.ref C_NoCall) = some true)
    (k_NoCall_NoTest : PySem.W.subIn K (.ref C_NoCall) (.ref C_NoTest) = some false)
    (k_NoCall_NoCheck : PySem.W.subIn K (.ref C_NoCall) (.ref C_NoCheck) = some false)
    (k_NoCall_NothingToUndo : PySem.W.subIn K (.ref C_NoCall) (.ref C_NothingToUndo) = some false)
    (k_NoCall_Raised : PySem.W.subIn K (.ref C_NoCall) (.ref C_Raised) = some false)
    (k_NoCall_WhatpassesError : PySem.W.subIn K (.ref C_NoCall) (.ref W_WhatpassesError) = some false)
    (k_NoCall_ValueError : PySem.W.subIn K (.ref C_NoCall) (.type "ValueError") = some false)
    (k_NoCall_LookupError : PySem.W.subIn K (.ref C_NoCall) (.type "LookupError") = some true)
    (k_NoCall_RuntimeError : PySem.W.subIn K (.ref C_NoCall) (.type "RuntimeError") = some false)
    (k_NoCall_KeyError : PySem.W.subIn K (.ref C_NoCall) (.type "KeyError") = some false)
    (k_NoCall_IndexError : PySem.W.subIn K (.ref C_NoCall) (.type "IndexError") = some false)
    (k_NoCall_NotImplementedError : PySem.W.subIn K (.ref C_NoCall) (.type "NotImplementedError") = some false)
    (k_NoTest_BadFamily : PySem.W.subIn K (.ref C_NoTest) (.ref C_BadFamily) = some false)
    (k_NoTest_BadCall : PySem.W.subIn K (.ref C_NoTest) (.ref C_BadCall) = some false)
    (k_NoTest_BadTest : PySem.W.subIn K (.ref C_NoTest) (.ref C_BadTest) = some false)
    (k_NoTest_BadPart : PySem.W.subIn K (.ref C_NoTest) (.ref C_BadPart) = some false)
    (k_NoTest_BadSuite : PySem.W.subIn K (.ref C_NoTest) (.ref C_BadSuite) = some false)
    (k_NoTest_OtherFamily : PySem.W.subIn K (.ref C_NoTest) (.ref C_OtherFamily) = some false)
    (k_NoTest_BadDemand : PySem.W.subIn K (.ref C_NoTest) (.ref C_BadDemand) = some false)
    (k_NoTest_BadDeed : PySem.W.subIn K (.ref C_NoTest) (.ref C_BadDeed) = some false)
    (k_NoTest_NoClass : PySem.W.subIn K (.ref C_NoTest) (.ref C_NoClass) = some false)
    (k_NoTest_NoCall : PySem.W.subIn K (.ref C_NoTest) (.ref C_NoCall) = some false)
    (k_NoTest_NoTest : PySem.W.subIn K (.ref C_NoTest) (.ref C_NoTest) = some true)
    (k_NoTest_NoCheck : PySem.W.subIn K (.ref C_NoTest) (.ref C_NoCheck) = some false)
    (k_NoTest_NothingToUndo : PySem.W.subIn K (.ref C_NoTest) (.ref C_NothingToUndo) = some false)
    (k_NoTest_Raised : PySem.W.subIn K (.ref C_NoTest) (.ref C_Raised) = some false)
    (k_NoTest_WhatpassesError : PySem.W.subIn K (.ref C_NoTest) (.ref W_WhatpassesError) = some false)
    (k_NoTest_ValueError : PySem.W.subIn K (.ref C_NoTest) (.type "ValueError") = some false)
    (k_NoTest_LookupError : PySem.W.subIn K (.ref C_NoTest) (.type "LookupError") = some true)
    (k_NoTest_RuntimeError : PySem.W.subIn K (.ref C_NoTest) (.type "RuntimeError") = some false)
    (k_NoTest_KeyError : PySem.W.subIn K (.ref C_NoTest) (.type "KeyError") = some false)
    (k_NoTest_IndexError : PySem.W.subIn K (.ref C_NoTest) (.type "IndexError") = some false)
    (k_NoTest_NotImplementedError : PySem.W.subIn K (.ref C_NoTest) (.type "NotImplementedError") = some false)
    (k_NoCheck_BadFamily : PySem.W.subIn K (.ref C_NoCheck) (.ref C_BadFamily) = some false)
    (k_NoCheck_BadCall : PySem.W.subIn K (.ref C_NoCheck) (.ref C_BadCall) = some false)
    (k_NoCheck_BadTest : PySem.W.subIn K (.ref C_NoCheck) (.ref C_BadTest) = some false)
    (k_NoCheck_BadPart : PySem.W.subIn K (.ref C_NoCheck) (.ref C_BadPart) = some false)
    (k_NoCheck_BadSuite : PySem.W.subIn K (.ref C_NoCheck) (.ref C_BadSuite) = some false)
    (k_NoCheck_OtherFamily : PySem.W.subIn K (.ref C_NoCheck) (.ref C_OtherFamily) = some false)
    (k_NoCheck_BadDemand : PySem.W.subIn K (.ref C_NoCheck) (.ref C_BadDemand) = some false)
    (k_NoCheck_BadDeed : PySem.W.subIn K (.ref C_NoCheck) (.ref C_BadDeed) = some false)
    (k_NoCheck_NoClass : PySem.W.subIn K (.ref C_NoCheck) (.ref C_NoClass) = some false)
    (k_NoCheck_NoCall : PySem.W.subIn K (.ref C_NoCheck) (.ref C_NoCall) = some false)
    (k_NoCheck_NoTest : PySem.W.subIn K (.ref C_NoCheck) (.ref C_NoTest) = some false)
    (k_NoCheck_NoCheck : PySem.W.subIn K (.ref C_NoCheck) (.ref C_NoCheck) = some true)
    (k_NoCheck_NothingToUndo : PySem.W.subIn K (.ref C_NoCheck) (.ref C_NothingToUndo) = some false)
    (k_NoCheck_Raised : PySem.W.subIn K (.ref C_NoCheck) (.ref C_Raised) = some false)
    (k_NoCheck_WhatpassesError : PySem.W.subIn K (.ref C_NoCheck) (.ref W_WhatpassesError) = some false)
    (k_NoCheck_ValueError : PySem.W.subIn K (.ref C_NoCheck) (.type "ValueError") = some false)
    (k_NoCheck_LookupError : PySem.W.subIn K (.ref C_NoCheck) (.type "LookupError") = some true)
    (k_NoCheck_RuntimeError : PySem.W.subIn K (.ref C_NoCheck) (.type "RuntimeError") = some false)
    (k_NoCheck_KeyError : PySem.W.subIn K (.ref C_NoCheck) (.type "KeyError") = some false)
    (k_NoCheck_IndexError : PySem.W.subIn K (.ref C_NoCheck) (.type "IndexError") = some false)
    (k_NoCheck_NotImplementedError : PySem.W.subIn K (.ref C_NoCheck) (.type "NotImplementedError") = some false)
    (k_NothingToUndo_BadFamily : PySem.W.subIn K (.ref C_NothingToUndo) (.ref C_BadFamily) = some false)
    (k_NothingToUndo_BadCall : PySem.W.subIn K (.ref C_NothingToUndo) (.ref C_BadCall) = some false)
    (k_NothingToUndo_BadTest : PySem.W.subIn K (.ref C_NothingToUndo) (.ref C_BadTest) = some false)
    (k_NothingToUndo_BadPart : PySem.W.subIn K (.ref C_NothingToUndo) (.ref C_BadPart) = some false)
    (k_NothingToUndo_BadSuite : PySem.W.subIn K (.ref C_NothingToUndo) (.ref C_BadSuite) = some false)
    (k_NothingToUndo_OtherFamily : PySem.W.subIn K (.ref C_NothingToUndo) (.ref C_OtherFamily) = some false)
    (k_NothingToUndo_BadDemand : PySem.W.subIn K (.ref C_NothingToUndo) (.ref C_BadDemand) = some false)
    (k_NothingToUndo_BadDeed : PySem.W.subIn K (.ref C_NothingToUndo) (.ref C_BadDeed) = some false)
    (k_NothingToUndo_NoClass : PySem.W.subIn K (.ref C_NothingToUndo) (.ref C_NoClass) = some false)
    (k_NothingToUndo_NoCall : PySem.W.subIn K (.ref C_NothingToUndo) (.ref C_NoCall) = some false)
    (k_NothingToUndo_NoTest : PySem.W.subIn K (.ref C_NothingToUndo) (.ref C_NoTest) = some false)
    (k_NothingToUndo_NoCheck : PySem.W.subIn K (.ref C_NothingToUndo) (.ref C_NoCheck) = some false)
    (k_NothingToUndo_NothingToUndo : PySem.W.subIn K (.ref C_NothingToUndo) (.ref C_NothingToUndo) = some true)
    (k_NothingToUndo_Raised : PySem.W.subIn K (.ref C_NothingToUndo) (.ref C_Raised) = some false)
    (k_NothingToUndo_WhatpassesError : PySem.W.subIn K (.ref C_NothingToUndo) (.ref W_WhatpassesError) = some false)
    (k_NothingToUndo_ValueError : PySem.W.subIn K (.ref C_NothingToUndo) (.type "ValueError") = some false)
    (k_NothingToUndo_LookupError : PySem.W.subIn K (.ref C_NothingToUndo) (.type "LookupError") = some true)
    (k_NothingToUndo_RuntimeError : PySem.W.subIn K (.ref C_NothingToUndo) (.type "RuntimeError") = some false)
    (k_NothingToUndo_KeyError : PySem.W.subIn K (.ref C_NothingToUndo) (.type "KeyError") = some false)
    (k_NothingToUndo_IndexError : PySem.W.subIn K (.ref C_NothingToUndo) (.type "IndexError") = some false)
    (k_NothingToUndo_NotImplementedError : PySem.W.subIn K (.ref C_NothingToUndo) (.type "NotImplementedError") = some false)
    (k_Raised_BadFamily : PySem.W.subIn K (.ref C_Raised) (.ref C_BadFamily) = some false)
    (k_Raised_BadCall : PySem.W.subIn K (.ref C_Raised) (.ref C_BadCall) = some false)
    (k_Raised_BadTest : PySem.W.subIn K (.ref C_Raised) (.ref C_BadTest) = some false)
    (k_Raised_BadPart : PySem.W.subIn K (.ref C_Raised) (.ref C_BadPart) = some false)
    (k_Raised_BadSuite : PySem.W.subIn K (.ref C_Raised) (.ref C_BadSuite) = some false)
    (k_Raised_OtherFamily : PySem.W.subIn K (.ref C_Raised) (.ref C_OtherFamily) = some false)
    (k_Raised_BadDemand : PySem.W.subIn K (.ref C_Raised) (.ref C_BadDemand) = some false)
    (k_Raised_BadDeed : PySem.W.subIn K (.ref C_Raised) (.ref C_BadDeed) = some false)
    (k_Raised_NoClass : PySem.W.subIn K (.ref C_Raised) (.ref C_NoClass) = some false)
    (k_Raised_NoCall : PySem.W.subIn K (.ref C_Raised) (.ref C_NoCall) = some false)
    (k_Raised_NoTest : PySem.W.subIn K (.ref C_Raised) (.ref C_NoTest) = some false)
    (k_Raised_NoCheck : PySem.W.subIn K (.ref C_Raised) (.ref C_NoCheck) = some false)
    (k_Raised_NothingToUndo : PySem.W.subIn K (.ref C_Raised) (.ref C_NothingToUndo) = some false)
    (k_Raised_Raised : PySem.W.subIn K (.ref C_Raised) (.ref C_Raised) = some true)
    (k_Raised_WhatpassesError : PySem.W.subIn K (.ref C_Raised) (.ref W_WhatpassesError) = some false)
    (k_Raised_ValueError : PySem.W.subIn K (.ref C_Raised) (.type "ValueError") = some false)
    (k_Raised_LookupError : PySem.W.subIn K (.ref C_Raised) (.type "LookupError") = some false)
    (k_Raised_RuntimeError : PySem.W.subIn K (.ref C_Raised) (.type "RuntimeError") = some true)
    (k_Raised_KeyError : PySem.W.subIn K (.ref C_Raised) (.type "KeyError") = some false)
    (k_Raised_IndexError : PySem.W.subIn K (.ref C_Raised) (.type "IndexError") = some false)
    (k_Raised_NotImplementedError : PySem.W.subIn K (.ref C_Raised) (.type "NotImplementedError") = some false)
    (z_IndexError : PySem.W.nsIn K mainGlobals "IndexError" = some none)
    (z_KeyError : PySem.W.nsIn K mainGlobals "KeyError" = some none)
    (z_LookupError : PySem.W.nsIn K mainGlobals "LookupError" = some none)
    (z_NotImplementedError : PySem.W.nsIn K mainGlobals "NotImplementedError" = some none)
    (z_RuntimeError : PySem.W.nsIn K mainGlobals "RuntimeError" = some none)
    (z_ValueError : PySem.W.nsIn K mainGlobals "ValueError" = some none)
    (z_abs : PySem.W.nsIn K mainGlobals "abs" = some none)
    (z_any : PySem.W.nsIn K mainGlobals "any" = some none)
    (z_int : PySem.W.nsIn K mainGlobals "int" = some none)
    (z_isinstance : PySem.W.nsIn K mainGlobals "isinstance" = some none)
    (z_len : PySem.W.nsIn K mainGlobals "len" = some none)
    (z_max : PySem.W.nsIn K mainGlobals "max" = some none)
    (z_min : PySem.W.nsIn K mainGlobals "min" = some none)
    (z_range : PySem.W.nsIn K mainGlobals "range" = some none)
    (z_repr : PySem.W.nsIn K mainGlobals "repr" = some none)
    (z_tuple : PySem.W.nsIn K mainGlobals "tuple" = some none) :
    ∃ fd : FuncData, (∀ (s : Shared) (v : Value), BindsTo s fd ⟨[v], []⟩ [("script", v)]) ∧ ∀ base : Heap, K.In base → base.Ns mainGlobals mg → GOk l.prog w K mg base 9 fa fd ["script"] (spLaw K) := by
  have e := hfa.symm.trans (PySem.W.mg_of X G a8)
  cases e
  have F0 := fun_mk (st := s_law_bag) l0 c0 k0
  have b0 := F0.binds (ps := ["script", "at"]) fun _ _ _ _ _ _ us hl => match us, hl with | [_, _], _ => rfl
  have F1 := fun_mk (st := s_law_take) l1 c1 k1
  have b1 := F1.binds (ps := ["bag", "many"]) fun _ _ _ _ _ _ us hl => match us, hl with | [_, _], _ => rfl
  have F2 := fun_mk (st := s_law_of) l2 c2 k2
  have b2 := F2.binds (ps := ["bag", "some"]) fun _ _ _ _ _ _ us hl => match us, hl with | [_, _], _ => rfl
  have F3 := fun_mk (st := s_law_word) l3 c3 k3
  have b3 := F3.binds (ps := ["bag", "most"]) fun _ _ _ _ _ _ us hl => match us, hl with | [_, _], _ => rfl
  have F4 := fun_mk (st := s_law_class) l4 c4 k4
  have b4 := F4.binds (ps := ["bag"]) fun _ _ _ _ _ _ us hl => match us, hl with | [_], _ => rfl
  have F5 := fun_mk (st := s_law_any) l5 c5 k5
  have b5 := F5.binds (ps := ["bag", "deep"]) fun _ _ _ _ _ _ us hl => match us, hl with | [_, _], _ => rfl
  have F6 := fun_mk (st := s_law_classes) l6 c6 k6
  have b6 := F6.binds (ps := ["e"]) fun _ _ _ _ _ _ us hl => match us, hl with | [_], _ => rfl
  have F7 := fun_mk (st := s_law_bases) l7 c7 k7
  have b7 := F7.binds (ps := ["e"]) fun _ _ _ _ _ _ us hl => match us, hl with | [_], _ => rfl
  have F8 := fun_mk (st := s_law) l8 c8 k8
  have b8 := F8.binds (ps := ["script"]) fun _ _ _ _ _ _ us hl => match us, hl with | [_], _ => rfl
  have EF_BadFamily := fun_mk (st := si_BadFamily) e9_BadFamily e10_BadFamily e11_BadFamily
  have Eb_BadFamily := EF_BadFamily.binds (ps := ["self", "at"]) fun _ _ _ _ _ _ us hl => match us, hl with | [_, _], _ => rfl
  have EV_BadFamily : ErrV K mg "BadFamily" C_BadFamily I_BadFamily := ⟨PySem.W.mg_of X G e1_BadFamily, ⟨⟨_, _, _, _, PySem.F.excBase_ValueError, PySem.F.store_ValueError, e18_BadFamily, e19_BadFamily⟩, e15_BadFamily, e3_BadFamily, e13_BadFamily, e14_BadFamily, e12_BadFamily⟩, e7_BadFamily, e8_BadFamily⟩
  have EF_BadCall := fun_mk (st := si_BadCall) e9_BadCall e10_BadCall e11_BadCall
  have Eb_BadCall := EF_BadCall.binds (ps := ["self", "at"]) fun _ _ _ _ _ _ us hl => match us, hl with | [_, _], _ => rfl
  have EV_BadCall : ErrV K mg "BadCall" C_BadCall I_BadCall := ⟨PySem.W.mg_of X G e1_BadCall, ⟨⟨_, _, _, _, PySem.F.excBase_ValueError, PySem.F.store_ValueError, e18_BadCall, e19_BadCall⟩, e15_BadCall, e3_BadCall, e13_BadCall, e14_BadCall, e12_BadCall⟩, e7_BadCall, e8_BadCall⟩
  have EF_BadTest := fun_mk (st := si_BadTest) e9_BadTest e10_BadTest e11_BadTest
  have Eb_BadTest := EF_BadTest.binds (ps := ["self", "at"]) fun _ _ _ _ _ _ us hl => match us, hl with | [_, _], _ => rfl
  have EV_BadTest : ErrV K mg "BadTest" C_BadTest I_BadTest := ⟨PySem.W.mg_of X G e1_BadTest, ⟨⟨_, _, _, _, PySem.F.excBase_ValueError, PySem.F.store_ValueError, e18_BadTest, e19_BadTest⟩, e15_BadTest, e3_BadTest, e13_BadTest, e14_BadTest, e12_BadTest⟩, e7_BadTest, e8_BadTest⟩
  have EF_BadPart := fun_mk (st := si_BadPart) e9_BadPart e10_BadPart e11_BadPart
  have Eb_BadPart := EF_BadPart.binds (ps := ["self", "at"]) fun _ _ _ _ _ _ us hl => match us, hl with | [_, _], _ => rfl
  have EV_BadPart : ErrV K mg "BadPart" C_BadPart I_BadPart := ⟨PySem.W.mg_of X G e1_BadPart, ⟨⟨_, _, _, _, PySem.F.excBase_ValueError, PySem.F.store_ValueError, e18_BadPart, e19_BadPart⟩, e15_BadPart, e3_BadPart, e13_BadPart, e14_BadPart, e12_BadPart⟩, e7_BadPart, e8_BadPart⟩
  have EF_BadSuite := fun_mk (st := si_BadSuite) e9_BadSuite e10_BadSuite e11_BadSuite
  have Eb_BadSuite := EF_BadSuite.binds (ps := ["self", "at"]) fun _ _ _ _ _ _ us hl => match us, hl with | [_, _], _ => rfl
  have EV_BadSuite : ErrV K mg "BadSuite" C_BadSuite I_BadSuite := ⟨PySem.W.mg_of X G e1_BadSuite, ⟨⟨_, _, _, _, PySem.F.excBase_ValueError, PySem.F.store_ValueError, e18_BadSuite, e19_BadSuite⟩, e15_BadSuite, e3_BadSuite, e13_BadSuite, e14_BadSuite, e12_BadSuite⟩, e7_BadSuite, e8_BadSuite⟩
  have EF_OtherFamily := fun_mk (st := si_OtherFamily) e9_OtherFamily e10_OtherFamily e11_OtherFamily
  have Eb_OtherFamily := EF_OtherFamily.binds (ps := ["self", "at"]) fun _ _ _ _ _ _ us hl => match us, hl with | [_, _], _ => rfl
  have EV_OtherFamily : ErrV K mg "OtherFamily" C_OtherFamily I_OtherFamily := ⟨PySem.W.mg_of X G e1_OtherFamily, ⟨⟨_, _, _, _, PySem.F.excBase_ValueError, PySem.F.store_ValueError, e18_OtherFamily, e19_OtherFamily⟩, e15_OtherFamily, e3_OtherFamily, e13_OtherFamily, e14_OtherFamily, e12_OtherFamily⟩, e7_OtherFamily, e8_OtherFamily⟩
  have EF_BadDemand := fun_mk (st := si_BadDemand) e9_BadDemand e10_BadDemand e11_BadDemand
  have Eb_BadDemand := EF_BadDemand.binds (ps := ["self", "at"]) fun _ _ _ _ _ _ us hl => match us, hl with | [_, _], _ => rfl
  have EV_BadDemand : ErrV K mg "BadDemand" C_BadDemand I_BadDemand := ⟨PySem.W.mg_of X G e1_BadDemand, ⟨⟨_, _, _, _, PySem.F.excBase_ValueError, PySem.F.store_ValueError, e18_BadDemand, e19_BadDemand⟩, e15_BadDemand, e3_BadDemand, e13_BadDemand, e14_BadDemand, e12_BadDemand⟩, e7_BadDemand, e8_BadDemand⟩
  have EF_BadDeed := fun_mk (st := si_BadDeed) e9_BadDeed e10_BadDeed e11_BadDeed
  have Eb_BadDeed := EF_BadDeed.binds (ps := ["self", "at"]) fun _ _ _ _ _ _ us hl => match us, hl with | [_, _], _ => rfl
  have EV_BadDeed : ErrV K mg "BadDeed" C_BadDeed I_BadDeed := ⟨PySem.W.mg_of X G e1_BadDeed, ⟨⟨_, _, _, _, PySem.F.excBase_ValueError, PySem.F.store_ValueError, e18_BadDeed, e19_BadDeed⟩, e15_BadDeed, e3_BadDeed, e13_BadDeed, e14_BadDeed, e12_BadDeed⟩, e7_BadDeed, e8_BadDeed⟩
  have EF_NoClass := fun_mk (st := si_NoClass) e9_NoClass e10_NoClass e11_NoClass
  have Eb_NoClass := EF_NoClass.binds (ps := ["self", "name"]) fun _ _ _ _ _ _ us hl => match us, hl with | [_, _], _ => rfl
  have EV_NoClass : ErrV K mg "NoClass" C_NoClass I_NoClass := ⟨PySem.W.mg_of X G e1_NoClass, ⟨⟨_, _, _, _, PySem.F.excBase_LookupError, PySem.F.store_LookupError, e18_NoClass, e19_NoClass⟩, e15_NoClass, e3_NoClass, e13_NoClass, e14_NoClass, e12_NoClass⟩, e7_NoClass, e8_NoClass⟩
  have EF_NoCall := fun_mk (st := si_NoCall) e9_NoCall e10_NoCall e11_NoCall
  have Eb_NoCall := EF_NoCall.binds (ps := ["self", "text"]) fun _ _ _ _ _ _ us hl => match us, hl with | [_, _], _ => rfl
  have EV_NoCall : ErrV K mg "NoCall" C_NoCall I_NoCall := ⟨PySem.W.mg_of X G e1_NoCall, ⟨⟨_, _, _, _, PySem.F.excBase_LookupError, PySem.F.store_LookupError, e18_NoCall, e19_NoCall⟩, e15_NoCall, e3_NoCall, e13_NoCall, e14_NoCall, e12_NoCall⟩, e7_NoCall, e8_NoCall⟩
  have EF_NoTest := fun_mk (st := si_NoTest) e9_NoTest e10_NoTest e11_NoTest
  have Eb_NoTest := EF_NoTest.binds (ps := ["self", "name"]) fun _ _ _ _ _ _ us hl => match us, hl with | [_, _], _ => rfl
  have EV_NoTest : ErrV K mg "NoTest" C_NoTest I_NoTest := ⟨PySem.W.mg_of X G e1_NoTest, ⟨⟨_, _, _, _, PySem.F.excBase_LookupError, PySem.F.store_LookupError, e18_NoTest, e19_NoTest⟩, e15_NoTest, e3_NoTest, e13_NoTest, e14_NoTest, e12_NoTest⟩, e7_NoTest, e8_NoTest⟩
  have EF_NoCheck := fun_mk (st := si_NoCheck) e9_NoCheck e10_NoCheck e11_NoCheck
  have Eb_NoCheck := EF_NoCheck.binds (ps := ["self", "line"]) fun _ _ _ _ _ _ us hl => match us, hl with | [_, _], _ => rfl
  have EV_NoCheck : ErrV K mg "NoCheck" C_NoCheck I_NoCheck := ⟨PySem.W.mg_of X G e1_NoCheck, ⟨⟨_, _, _, _, PySem.F.excBase_LookupError, PySem.F.store_LookupError, e18_NoCheck, e19_NoCheck⟩, e15_NoCheck, e3_NoCheck, e13_NoCheck, e14_NoCheck, e12_NoCheck⟩, e7_NoCheck, e8_NoCheck⟩
  have EF_Raised := fun_mk (st := si_Raised) e9_Raised e10_Raised e11_Raised
  have Eb_Raised := EF_Raised.binds (ps := ["self", "kind", "cause"]) fun _ _ _ _ _ _ us hl => match us, hl with | [_, _, _], _ => rfl
  have EV_Raised : ErrV K mg "Raised" C_Raised I_Raised := ⟨PySem.W.mg_of X G e1_Raised, ⟨⟨_, _, _, _, PySem.F.excBase_RuntimeError, PySem.F.store_RuntimeError, e18_Raised, e19_Raised⟩, e15_Raised, e3_Raised, e13_Raised, e14_Raised, e12_Raised⟩, e7_Raised, e8_Raised⟩
  have T : Txt K mg := {
    f_law_bag := f_law_bag, fd_law_bag := _, F_law_bag := F0, b_law_bag := b0, g_law_bag := PySem.W.mg_of X G a0,
    f_law_take := f_law_take, fd_law_take := _, F_law_take := F1, b_law_take := b1, g_law_take := PySem.W.mg_of X G a1,
    f_law_of := f_law_of, fd_law_of := _, F_law_of := F2, b_law_of := b2, g_law_of := PySem.W.mg_of X G a2,
    f_law_word := f_law_word, fd_law_word := _, F_law_word := F3, b_law_word := b3, g_law_word := PySem.W.mg_of X G a3,
    f_law_class := f_law_class, fd_law_class := _, F_law_class := F4, b_law_class := b4, g_law_class := PySem.W.mg_of X G a4,
    f_law_any := f_law_any, fd_law_any := _, F_law_any := F5, b_law_any := b5, g_law_any := PySem.W.mg_of X G a5,
    f_law_classes := f_law_classes, fd_law_classes := _, F_law_classes := F6, b_law_classes := b6, g_law_classes := PySem.W.mg_of X G a6,
    f_law_bases := f_law_bases, fd_law_bases := _, F_law_bases := F7, b_law_bases := b7, g_law_bases := PySem.W.mg_of X G a7,
    w_WhatpassesError := W_WhatpassesError, gw_WhatpassesError := PySem.W.mg_of X G v0_WhatpassesError,
    cC_BadFamily := C_BadFamily, cI_BadFamily := I_BadFamily, cfd_BadFamily := _, cF_BadFamily := EF_BadFamily, cb_BadFamily := Eb_BadFamily, cV_BadFamily := EV_BadFamily,
    cn_BadFamily_at := e6at_BadFamily,
    ck_BadFamily := ⟨e4_BadFamily, e5_BadFamily, e13_BadFamily, e15_BadFamily, v4_BadFamily, v5_BadFamily, v6_BadFamily, v7_BadFamily⟩, cx_BadFamily := ⟨e4_BadFamily, e5_BadFamily, e13_BadFamily, e15_BadFamily⟩,
    cC_BadCall := C_BadCall, cI_BadCall := I_BadCall, cfd_BadCall := _, cF_BadCall := EF_BadCall, cb_BadCall := Eb_BadCall, cV_BadCall := EV_BadCall,
    cn_BadCall_at := e6at_BadCall,
    ck_BadCall := ⟨e4_BadCall, e5_BadCall, e13_BadCall, e15_BadCall, v4_BadCall, v5_BadCall, v6_BadCall, v7_BadCall⟩, cx_BadCall := ⟨e4_BadCall, e5_BadCall, e13_BadCall, e15_BadCall⟩,
    cC_BadTest := C_BadTest, cI_BadTest := I_BadTest, cfd_BadTest := _, cF_BadTest := EF_BadTest, cb_BadTest := Eb_BadTest, cV_BadTest := EV_BadTest,
    cn_BadTest_at := e6at_BadTest,
    ck_BadTest := ⟨e4_BadTest, e5_BadTest, e13_BadTest, e15_BadTest, v4_BadTest, v5_BadTest, v6_BadTest, v7_BadTest⟩, cx_BadTest := ⟨e4_BadTest, e5_BadTest, e13_BadTest, e15_BadTest⟩,
    cC_BadPart := C_BadPart, cI_BadPart := I_BadPart, cfd_BadPart := _, cF_BadPart := EF_BadPart, cb_BadPart := Eb_BadPart, cV_BadPart := EV_BadPart,
    cn_BadPart_at := e6at_BadPart,
    ck_BadPart := ⟨e4_BadPart, e5_BadPart, e13_BadPart, e15_BadPart, v4_BadPart, v5_BadPart, v6_BadPart, v7_BadPart⟩, cx_BadPart := ⟨e4_BadPart, e5_BadPart, e13_BadPart, e15_BadPart⟩,
    cC_BadSuite := C_BadSuite, cI_BadSuite := I_BadSuite, cfd_BadSuite := _, cF_BadSuite := EF_BadSuite, cb_BadSuite := Eb_BadSuite, cV_BadSuite := EV_BadSuite,
    cn_BadSuite_at := e6at_BadSuite,
    ck_BadSuite := ⟨e4_BadSuite, e5_BadSuite, e13_BadSuite, e15_BadSuite, v4_BadSuite, v5_BadSuite, v6_BadSuite, v7_BadSuite⟩, cx_BadSuite := ⟨e4_BadSuite, e5_BadSuite, e13_BadSuite, e15_BadSuite⟩,
    cC_OtherFamily := C_OtherFamily, cI_OtherFamily := I_OtherFamily, cfd_OtherFamily := _, cF_OtherFamily := EF_OtherFamily, cb_OtherFamily := Eb_OtherFamily, cV_OtherFamily := EV_OtherFamily,
    cn_OtherFamily_at := e6at_OtherFamily,
    ck_OtherFamily := ⟨e4_OtherFamily, e5_OtherFamily, e13_OtherFamily, e15_OtherFamily, v4_OtherFamily, v5_OtherFamily, v6_OtherFamily, v7_OtherFamily⟩, cx_OtherFamily := ⟨e4_OtherFamily, e5_OtherFamily, e13_OtherFamily, e15_OtherFamily⟩,
    cC_BadDemand := C_BadDemand, cI_BadDemand := I_BadDemand, cfd_BadDemand := _, cF_BadDemand := EF_BadDemand, cb_BadDemand := Eb_BadDemand, cV_BadDemand := EV_BadDemand,
    cn_BadDemand_at := e6at_BadDemand,
    ck_BadDemand := ⟨e4_BadDemand, e5_BadDemand, e13_BadDemand, e15_BadDemand, v4_BadDemand, v5_BadDemand, v6_BadDemand, v7_BadDemand⟩, cx_BadDemand := ⟨e4_BadDemand, e5_BadDemand, e13_BadDemand, e15_BadDemand⟩,
    cC_BadDeed := C_BadDeed, cI_BadDeed := I_BadDeed, cfd_BadDeed := _, cF_BadDeed := EF_BadDeed, cb_BadDeed := Eb_BadDeed, cV_BadDeed := EV_BadDeed,
    cn_BadDeed_at := e6at_BadDeed,
    ck_BadDeed := ⟨e4_BadDeed, e5_BadDeed, e13_BadDeed, e15_BadDeed, v4_BadDeed, v5_BadDeed, v6_BadDeed, v7_BadDeed⟩, cx_BadDeed := ⟨e4_BadDeed, e5_BadDeed, e13_BadDeed, e15_BadDeed⟩,
    cC_NoClass := C_NoClass, cI_NoClass := I_NoClass, cfd_NoClass := _, cF_NoClass := EF_NoClass, cb_NoClass := Eb_NoClass, cV_NoClass := EV_NoClass,
    cn_NoClass_name := e6name_NoClass,
    ck_NoClass := ⟨e4_NoClass, e5_NoClass, e13_NoClass, e15_NoClass, v4_NoClass, v5_NoClass, v6_NoClass, v7_NoClass⟩, cx_NoClass := ⟨e4_NoClass, e5_NoClass, e13_NoClass, e15_NoClass⟩,
    cC_NoCall := C_NoCall, cI_NoCall := I_NoCall, cfd_NoCall := _, cF_NoCall := EF_NoCall, cb_NoCall := Eb_NoCall, cV_NoCall := EV_NoCall,
    cn_NoCall_text := e6text_NoCall,
    ck_NoCall := ⟨e4_NoCall, e5_NoCall, e13_NoCall, e15_NoCall, v4_NoCall, v5_NoCall, v6_NoCall, v7_NoCall⟩, cx_NoCall := ⟨e4_NoCall, e5_NoCall, e13_NoCall, e15_NoCall⟩,
    cC_NoTest := C_NoTest, cI_NoTest := I_NoTest, cfd_NoTest := _, cF_NoTest := EF_NoTest, cb_NoTest := Eb_NoTest, cV_NoTest := EV_NoTest,
    cn_NoTest_name := e6name_NoTest,
    ck_NoTest := ⟨e4_NoTest, e5_NoTest, e13_NoTest, e15_NoTest, v4_NoTest, v5_NoTest, v6_NoTest, v7_NoTest⟩, cx_NoTest := ⟨e4_NoTest, e5_NoTest, e13_NoTest, e15_NoTest⟩,
    cC_NoCheck := C_NoCheck, cI_NoCheck := I_NoCheck, cfd_NoCheck := _, cF_NoCheck := EF_NoCheck, cb_NoCheck := Eb_NoCheck, cV_NoCheck := EV_NoCheck,
    cn_NoCheck_line := e6line_NoCheck,
    ck_NoCheck := ⟨e4_NoCheck, e5_NoCheck, e13_NoCheck, e15_NoCheck, v4_NoCheck, v5_NoCheck, v6_NoCheck, v7_NoCheck⟩, cx_NoCheck := ⟨e4_NoCheck, e5_NoCheck, e13_NoCheck, e15_NoCheck⟩,
    cC_NothingToUndo := C_NothingToUndo, cG_NothingToUndo := PySem.W.mg_of X G e1_NothingToUndo, cN_NothingToUndo := e12_NothingToUndo, cX_NothingToUndo := e20_NothingToUndo,
    ck_NothingToUndo := ⟨e4_NothingToUndo, e5_NothingToUndo, e13_NothingToUndo, e15_NothingToUndo, v4_NothingToUndo, v5_NothingToUndo, v6_NothingToUndo, v7_NothingToUndo⟩, cx_NothingToUndo := ⟨e4_NothingToUndo, e5_NothingToUndo, e13_NothingToUndo, e15_NothingToUndo⟩,
    cC_Raised := C_Raised, cI_Raised := I_Raised, cfd_Raised := _, cF_Raised := EF_Raised, cb_Raised := Eb_Raised, cV_Raised := EV_Raised,
    cn_Raised_kind := e6kind_Raised,
    cn_Raised_cause := e6cause_Raised,
    ck_Raised := ⟨e4_Raised, e5_Raised, e13_Raised, e15_Raised, v4_Raised, v5_Raised, v6_Raised, v7_Raised⟩, cx_Raised := ⟨e4_Raised, e5_Raised, e13_Raised, e15_Raised⟩,
    ks_BadFamily_BadFamily := kit_sub e16_BadFamily e14_BadFamily k_BadFamily_BadFamily e17_BadFamily,
    ks_BadFamily_BadCall := kit_sub e16_BadCall e14_BadCall k_BadFamily_BadCall e17_BadFamily,
    ks_BadFamily_BadTest := kit_sub e16_BadTest e14_BadTest k_BadFamily_BadTest e17_BadFamily,
    ks_BadFamily_BadPart := kit_sub e16_BadPart e14_BadPart k_BadFamily_BadPart e17_BadFamily,
    ks_BadFamily_BadSuite := kit_sub e16_BadSuite e14_BadSuite k_BadFamily_BadSuite e17_BadFamily,
    ks_BadFamily_OtherFamily := kit_sub e16_OtherFamily e14_OtherFamily k_BadFamily_OtherFamily e17_BadFamily,
    ks_BadFamily_BadDemand := kit_sub e16_BadDemand e14_BadDemand k_BadFamily_BadDemand e17_BadFamily,
    ks_BadFamily_BadDeed := kit_sub e16_BadDeed e14_BadDeed k_BadFamily_BadDeed e17_BadFamily,
    ks_BadFamily_NoClass := kit_sub e16_NoClass e14_NoClass k_BadFamily_NoClass e17_BadFamily,
    ks_BadFamily_NoCall := kit_sub e16_NoCall e14_NoCall k_BadFamily_NoCall e17_BadFamily,
    ks_BadFamily_NoTest := kit_sub e16_NoTest e14_NoTest k_BadFamily_NoTest e17_BadFamily,
    ks_BadFamily_NoCheck := kit_sub e16_NoCheck e14_NoCheck k_BadFamily_NoCheck e17_BadFamily,
    ks_BadFamily_NothingToUndo := kit_sub e16_NothingToUndo e14_NothingToUndo k_BadFamily_NothingToUndo e17_BadFamily,
    ks_BadFamily_Raised := kit_sub e16_Raised e14_Raised k_BadFamily_Raised e17_BadFamily,
    ks_BadFamily_WhatpassesError := kit_sub v2_WhatpassesError v1_WhatpassesError k_BadFamily_WhatpassesError e17_BadFamily,
    ks_BadFamily_ValueError := kit_subT (by decide +kernel) k_BadFamily_ValueError,
    ks_BadFamily_LookupError := kit_subT (by decide +kernel) k_BadFamily_LookupError,
    ks_BadFamily_RuntimeError := kit_subT (by decide +kernel) k_BadFamily_RuntimeError,
    ks_BadFamily_KeyError := kit_subT (by decide +kernel) k_BadFamily_KeyError,
    ks_BadFamily_IndexError := kit_subT (by decide +kernel) k_BadFamily_IndexError,
    ks_BadFamily_NotImplementedError := kit_subT (by decide +kernel) k_BadFamily_NotImplementedError,
    ks_BadCall_BadFamily := kit_sub e16_BadFamily e14_BadFamily k_BadCall_BadFamily e17_BadCall,
    ks_BadCall_BadCall := kit_sub e16_BadCall e14_BadCall k_BadCall_BadCall e17_BadCall,
    ks_BadCall_BadTest := kit_sub e16_BadTest e14_BadTest k_BadCall_BadTest e17_BadCall,
    ks_BadCall_BadPart := kit_sub e16_BadPart e14_BadPart k_BadCall_BadPart e17_BadCall,
    ks_BadCall_BadSuite := kit_sub e16_BadSuite e14_BadSuite k_BadCall_BadSuite e17_BadCall,
    ks_BadCall_OtherFamily := kit_sub e16_OtherFamily e14_OtherFamily k_BadCall_OtherFamily e17_BadCall,
    ks_BadCall_BadDemand := kit_sub e16_BadDemand e14_BadDemand k_BadCall_BadDemand e17_BadCall,
    ks_BadCall_BadDeed := kit_sub e16_BadDeed e14_BadDeed k_BadCall_BadDeed e17_BadCall,
    ks_BadCall_NoClass := kit_sub e16_NoClass e14_NoClass k_BadCall_NoClass e17_BadCall,
    ks_BadCall_NoCall := kit_sub e16_NoCall e14_NoCall k_BadCall_NoCall e17_BadCall,
    ks_BadCall_NoTest := kit_sub e16_NoTest e14_NoTest k_BadCall_NoTest e17_BadCall,
    ks_BadCall_NoCheck := kit_sub e16_NoCheck e14_NoCheck k_BadCall_NoCheck e17_BadCall,
    ks_BadCall_NothingToUndo := kit_sub e16_NothingToUndo e14_NothingToUndo k_BadCall_NothingToUndo e17_BadCall,
    ks_BadCall_Raised := kit_sub e16_Raised e14_Raised k_BadCall_Raised e17_BadCall,
    ks_BadCall_WhatpassesError := kit_sub v2_WhatpassesError v1_WhatpassesError k_BadCall_WhatpassesError e17_BadCall,
    ks_BadCall_ValueError := kit_subT (by decide +kernel) k_BadCall_ValueError,
    ks_BadCall_LookupError := kit_subT (by decide +kernel) k_BadCall_LookupError,
    ks_BadCall_RuntimeError := kit_subT (by decide +kernel) k_BadCall_RuntimeError,
    ks_BadCall_KeyError := kit_subT (by decide +kernel) k_BadCall_KeyError,
    ks_BadCall_IndexError := kit_subT (by decide +kernel) k_BadCall_IndexError,
    ks_BadCall_NotImplementedError := kit_subT (by decide +kernel) k_BadCall_NotImplementedError,
    ks_BadTest_BadFamily := kit_sub e16_BadFamily e14_BadFamily k_BadTest_BadFamily e17_BadTest,
    ks_BadTest_BadCall := kit_sub e16_BadCall e14_BadCall k_BadTest_BadCall e17_BadTest,
    ks_BadTest_BadTest := kit_sub e16_BadTest e14_BadTest k_BadTest_BadTest e17_BadTest,
    ks_BadTest_BadPart := kit_sub e16_BadPart e14_BadPart k_BadTest_BadPart e17_BadTest,
    ks_BadTest_BadSuite := kit_sub e16_BadSuite e14_BadSuite k_BadTest_BadSuite e17_BadTest,
    ks_BadTest_OtherFamily := kit_sub e16_OtherFamily e14_OtherFamily k_BadTest_OtherFamily e17_BadTest,
    ks_BadTest_BadDemand := kit_sub e16_BadDemand e14_BadDemand k_BadTest_BadDemand e17_BadTest,
    ks_BadTest_BadDeed := kit_sub e16_BadDeed e14_BadDeed k_BadTest_BadDeed e17_BadTest,
    ks_BadTest_NoClass := kit_sub e16_NoClass e14_NoClass k_BadTest_NoClass e17_BadTest,
    ks_BadTest_NoCall := kit_sub e16_NoCall e14_NoCall k_BadTest_NoCall e17_BadTest,
    ks_BadTest_NoTest := kit_sub e16_NoTest e14_NoTest k_BadTest_NoTest e17_BadTest,
    ks_BadTest_NoCheck := kit_sub e16_NoCheck e14_NoCheck k_BadTest_NoCheck e17_BadTest,
    ks_BadTest_NothingToUndo := kit_sub e16_NothingToUndo e14_NothingToUndo k_BadTest_NothingToUndo e17_BadTest,
    ks_BadTest_Raised := kit_sub e16_Raised e14_Raised k_BadTest_Raised e17_BadTest,
    ks_BadTest_WhatpassesError := kit_sub v2_WhatpassesError v1_WhatpassesError k_BadTest_WhatpassesError e17_BadTest,
    ks_BadTest_ValueError := kit_subT (by decide +kernel) k_BadTest_ValueError,
    ks_BadTest_LookupError := kit_subT (by decide +kernel) k_BadTest_LookupError,
    ks_BadTest_RuntimeError := kit_subT (by decide +kernel) k_BadTest_RuntimeError,
    ks_BadTest_KeyError := kit_subT (by decide +kernel) k_BadTest_KeyError,
    ks_BadTest_IndexError := kit_subT (by decide +kernel) k_BadTest_IndexError,
    ks_BadTest_NotImplementedError := kit_subT (by decide +kernel) k_BadTest_NotImplementedError,
    ks_BadPart_BadFamily := kit_sub e16_BadFamily e14_BadFamily k_BadPart_BadFamily e17_BadPart,
    ks_BadPart_BadCall := kit_sub e16_BadCall e14_BadCall k_BadPart_BadCall e17_BadPart,
    ks_BadPart_BadTest := kit_sub e16_BadTest e14_BadTest k_BadPart_BadTest e17_BadPart,
    ks_BadPart_BadPart := kit_sub e16_BadPart e14_BadPart k_BadPart_BadPart e17_BadPart,
    ks_BadPart_BadSuite := kit_sub e16_BadSuite e14_BadSuite k_BadPart_BadSuite e17_BadPart,
    ks_BadPart_OtherFamily := kit_sub e16_OtherFamily e14_OtherFamily k_BadPart_OtherFamily e17_BadPart,
    ks_BadPart_BadDemand := kit_sub e16_BadDemand e14_BadDemand k_BadPart_BadDemand e17_BadPart,
    ks_BadPart_BadDeed := kit_sub e16_BadDeed e14_BadDeed k_BadPart_BadDeed e17_BadPart,
    ks_BadPart_NoClass := kit_sub e16_NoClass e14_NoClass k_BadPart_NoClass e17_BadPart,
    ks_BadPart_NoCall := kit_sub e16_NoCall e14_NoCall k_BadPart_NoCall e17_BadPart,
    ks_BadPart_NoTest := kit_sub e16_NoTest e14_NoTest k_BadPart_NoTest e17_BadPart,
    ks_BadPart_NoCheck := kit_sub e16_NoCheck e14_NoCheck k_BadPart_NoCheck e17_BadPart,
    ks_BadPart_NothingToUndo := kit_sub e16_NothingToUndo e14_NothingToUndo k_BadPart_NothingToUndo e17_BadPart,
    ks_BadPart_Raised := kit_sub e16_Raised e14_Raised k_BadPart_Raised e17_BadPart,
    ks_BadPart_WhatpassesError := kit_sub v2_WhatpassesError v1_WhatpassesError k_BadPart_WhatpassesError e17_BadPart,
    ks_BadPart_ValueError := kit_subT (by decide +kernel) k_BadPart_ValueError,
    ks_BadPart_LookupError := kit_subT (by decide +kernel) k_BadPart_LookupError,
    ks_BadPart_RuntimeError := kit_subT (by decide +kernel) k_BadPart_RuntimeError,
    ks_BadPart_KeyError := kit_subT (by decide +kernel) k_BadPart_KeyError,
    ks_BadPart_IndexError := kit_subT (by decide +kernel) k_BadPart_IndexError,
    ks_BadPart_NotImplementedError := kit_subT (by decide +kernel) k_BadPart_NotImplementedError,
    ks_BadSuite_BadFamily := kit_sub e16_BadFamily e14_BadFamily k_BadSuite_BadFamily e17_BadSuite,
    ks_BadSuite_BadCall := kit_sub e16_BadCall e14_BadCall k_BadSuite_BadCall e17_BadSuite,
    ks_BadSuite_BadTest := kit_sub e16_BadTest e14_BadTest k_BadSuite_BadTest e17_BadSuite,
    ks_BadSuite_BadPart := kit_sub e16_BadPart e14_BadPart k_BadSuite_BadPart e17_BadSuite,
    ks_BadSuite_BadSuite := kit_sub e16_BadSuite e14_BadSuite k_BadSuite_BadSuite e17_BadSuite,
    ks_BadSuite_OtherFamily := kit_sub e16_OtherFamily e14_OtherFamily k_BadSuite_OtherFamily e17_BadSuite,
    ks_BadSuite_BadDemand := kit_sub e16_BadDemand e14_BadDemand k_BadSuite_BadDemand e17_BadSuite,
    ks_BadSuite_BadDeed := kit_sub e16_BadDeed e14_BadDeed k_BadSuite_BadDeed e17_BadSuite,
    ks_BadSuite_NoClass := kit_sub e16_NoClass e14_NoClass k_BadSuite_NoClass e17_BadSuite,
    ks_BadSuite_NoCall := kit_sub e16_NoCall e14_NoCall k_BadSuite_NoCall e17_BadSuite,
    ks_BadSuite_NoTest := kit_sub e16_NoTest e14_NoTest k_BadSuite_NoTest e17_BadSuite,
    ks_BadSuite_NoCheck := kit_sub e16_NoCheck e14_NoCheck k_BadSuite_NoCheck e17_BadSuite,
    ks_BadSuite_NothingToUndo := kit_sub e16_NothingToUndo e14_NothingToUndo k_BadSuite_NothingToUndo e17_BadSuite,
    ks_BadSuite_Raised := kit_sub e16_Raised e14_Raised k_BadSuite_Raised e17_BadSuite,
    ks_BadSuite_WhatpassesError := kit_sub v2_WhatpassesError v1_WhatpassesError k_BadSuite_WhatpassesError e17_BadSuite,
    ks_BadSuite_ValueError := kit_subT (by decide +kernel) k_BadSuite_ValueError,
    ks_BadSuite_LookupError := kit_subT (by decide +kernel) k_BadSuite_LookupError,
    ks_BadSuite_RuntimeError := kit_subT (by decide +kernel) k_BadSuite_RuntimeError,
    ks_BadSuite_KeyError := kit_subT (by decide +kernel) k_BadSuite_KeyError,
    ks_BadSuite_IndexError := kit_subT (by decide +kernel) k_BadSuite_IndexError,
    ks_BadSuite_NotImplementedError := kit_subT (by decide +kernel) k_BadSuite_NotImplementedError,
    ks_OtherFamily_BadFamily := kit_sub e16_BadFamily e14_BadFamily k_OtherFamily_BadFamily e17_OtherFamily,
    ks_OtherFamily_BadCall := kit_sub e16_BadCall e14_BadCall k_OtherFamily_BadCall e17_OtherFamily,
    ks_OtherFamily_BadTest := kit_sub e16_BadTest e14_BadTest k_OtherFamily_BadTest e17_OtherFamily,
    ks_OtherFamily_BadPart := kit_sub e16_BadPart e14_BadPart k_OtherFamily_BadPart e17_OtherFamily,
    ks_OtherFamily_BadSuite := kit_sub e16_BadSuite e14_BadSuite k_OtherFamily_BadSuite e17_OtherFamily,
    ks_OtherFamily_OtherFamily := kit_sub e16_OtherFamily e14_OtherFamily k_OtherFamily_OtherFamily e17_OtherFamily,
    ks_OtherFamily_BadDemand := kit_sub e16_BadDemand e14_BadDemand k_OtherFamily_BadDemand e17_OtherFamily,
    ks_OtherFamily_BadDeed := kit_sub e16_BadDeed e14_BadDeed k_OtherFamily_BadDeed e17_OtherFamily,
    ks_OtherFamily_NoClass := kit_sub e16_NoClass e14_NoClass k_OtherFamily_NoClass e17_OtherFamily,
    ks_OtherFamily_NoCall := kit_sub e16_NoCall e14_NoCall k_OtherFamily_NoCall e17_OtherFamily,
    ks_OtherFamily_NoTest := kit_sub e16_NoTest e14_NoTest k_OtherFamily_NoTest e17_OtherFamily,
    ks_OtherFamily_NoCheck := kit_sub e16_NoCheck e14_NoCheck k_OtherFamily_NoCheck e17_OtherFamily,
    ks_OtherFamily_NothingToUndo := kit_sub e16_NothingToUndo e14_NothingToUndo k_OtherFamily_NothingToUndo e17_OtherFamily,
    ks_OtherFamily_Raised := kit_sub e16_Raised e14_Raised k_OtherFamily_Raised e17_OtherFamily,
    ks_OtherFamily_WhatpassesError := kit_sub v2_WhatpassesError v1_WhatpassesError k_OtherFamily_WhatpassesError e17_OtherFamily,
    ks_OtherFamily_ValueError := kit_subT (by decide +kernel) k_OtherFamily_ValueError,
    ks_OtherFamily_LookupError := kit_subT (by decide +kernel) k_OtherFamily_LookupError,
    ks_OtherFamily_RuntimeError := kit_subT (by decide +kernel) k_OtherFamily_RuntimeError,
    ks_OtherFamily_KeyError := kit_subT (by decide +kernel) k_OtherFamily_KeyError,
    ks_OtherFamily_IndexError := kit_subT (by decide +kernel) k_OtherFamily_IndexError,
    ks_OtherFamily_NotImplementedError := kit_subT (by decide +kernel) k_OtherFamily_NotImplementedError,
    ks_BadDemand_BadFamily := kit_sub e16_BadFamily e14_BadFamily k_BadDemand_BadFamily e17_BadDemand,
    ks_BadDemand_BadCall := kit_sub e16_BadCall e14_BadCall k_BadDemand_BadCall e17_BadDemand,
    ks_BadDemand_BadTest := kit_sub e16_BadTest e14_BadTest k_BadDemand_BadTest e17_BadDemand,
    ks_BadDemand_BadPart := kit_sub e16_BadPart e14_BadPart k_BadDemand_BadPart e17_BadDemand,
    ks_BadDemand_BadSuite := kit_sub e16_BadSuite e14_BadSuite k_BadDemand_BadSuite e17_BadDemand,
    ks_BadDemand_OtherFamily := kit_sub e16_OtherFamily e14_OtherFamily k_BadDemand_OtherFamily e17_BadDemand,
    ks_BadDemand_BadDemand := kit_sub e16_BadDemand e14_BadDemand k_BadDemand_BadDemand e17_BadDemand,
    ks_BadDemand_BadDeed := kit_sub e16_BadDeed e14_BadDeed k_BadDemand_BadDeed e17_BadDemand,
    ks_BadDemand_NoClass := kit_sub e16_NoClass e14_NoClass k_BadDemand_NoClass e17_BadDemand,
    ks_BadDemand_NoCall := kit_sub e16_NoCall e14_NoCall k_BadDemand_NoCall e17_BadDemand,
    ks_BadDemand_NoTest := kit_sub e16_NoTest e14_NoTest k_BadDemand_NoTest e17_BadDemand,
    ks_BadDemand_NoCheck := kit_sub e16_NoCheck e14_NoCheck k_BadDemand_NoCheck e17_BadDemand,
    ks_BadDemand_NothingToUndo := kit_sub e16_NothingToUndo e14_NothingToUndo k_BadDemand_NothingToUndo e17_BadDemand,
    ks_BadDemand_Raised := kit_sub e16_Raised e14_Raised k_BadDemand_Raised e17_BadDemand,
    ks_BadDemand_WhatpassesError := kit_sub v2_WhatpassesError v1_WhatpassesError k_BadDemand_WhatpassesError e17_BadDemand,
    ks_BadDemand_ValueError := kit_subT (by decide +kernel) k_BadDemand_ValueError,
    ks_BadDemand_LookupError := kit_subT (by decide +kernel) k_BadDemand_LookupError,
    ks_BadDemand_RuntimeError := kit_subT (by decide +kernel) k_BadDemand_RuntimeError,
    ks_BadDemand_KeyError := kit_subT (by decide +kernel) k_BadDemand_KeyError,
    ks_BadDemand_IndexError := kit_subT (by decide +kernel) k_BadDemand_IndexError,
    ks_BadDemand_NotImplementedError := kit_subT (by decide +kernel) k_BadDemand_NotImplementedError,
    ks_BadDeed_BadFamily := kit_sub e16_BadFamily e14_BadFamily k_BadDeed_BadFamily e17_BadDeed,
    ks_BadDeed_BadCall := kit_sub e16_BadCall e14_BadCall k_BadDeed_BadCall e17_BadDeed,
    ks_BadDeed_BadTest := kit_sub e16_BadTest e14_BadTest k_BadDeed_BadTest e17_BadDeed,
    ks_BadDeed_BadPart := kit_sub e16_BadPart e14_BadPart k_BadDeed_BadPart e17_BadDeed,
    ks_BadDeed_BadSuite := kit_sub e16_BadSuite e14_BadSuite k_BadDeed_BadSuite e17_BadDeed,
    ks_BadDeed_OtherFamily := kit_sub e16_OtherFamily e14_OtherFamily k_BadDeed_OtherFamily e17_BadDeed,
    ks_BadDeed_BadDemand := kit_sub e16_BadDemand e14_BadDemand k_BadDeed_BadDemand e17_BadDeed,
    ks_BadDeed_BadDeed := kit_sub e16_BadDeed e14_BadDeed k_BadDeed_BadDeed e17_BadDeed,
    ks_BadDeed_NoClass := kit_sub e16_NoClass e14_NoClass k_BadDeed_NoClass e17_BadDeed,
    ks_BadDeed_NoCall := kit_sub e16_NoCall e14_NoCall k_BadDeed_NoCall e17_BadDeed,
    ks_BadDeed_NoTest := kit_sub e16_NoTest e14_NoTest k_BadDeed_NoTest e17_BadDeed,
    ks_BadDeed_NoCheck := kit_sub e16_NoCheck e14_NoCheck k_BadDeed_NoCheck e17_BadDeed,
    ks_BadDeed_NothingToUndo := kit_sub e16_NothingToUndo e14_NothingToUndo k_BadDeed_NothingToUndo e17_BadDeed,
    ks_BadDeed_Raised := kit_sub e16_Raised e14_Raised k_BadDeed_Raised e17_BadDeed,
    ks_BadDeed_WhatpassesError := kit_sub v2_WhatpassesError v1_WhatpassesError k_BadDeed_WhatpassesError e17_BadDeed,
    ks_BadDeed_ValueError := kit_subT (by decide +kernel) k_BadDeed_ValueError,
    ks_BadDeed_LookupError := kit_subT (by decide +kernel) k_BadDeed_LookupError,
    ks_BadDeed_RuntimeError := kit_subT (by decide +kernel) k_BadDeed_RuntimeError,
    ks_BadDeed_KeyError := kit_subT (by decide +kernel) k_BadDeed_KeyError,
    ks_BadDeed_IndexError := kit_subT (by decide +kernel) k_BadDeed_IndexError,
    ks_BadDeed_NotImplementedError := kit_subT (by decide +kernel) k_BadDeed_NotImplementedError,
    ks_NoClass_BadFamily := kit_sub e16_BadFamily e14_BadFamily k_NoClass_BadFamily e17_NoClass,
    ks_NoClass_BadCall := kit_sub e16_BadCall e14_BadCall k_NoClass_BadCall e17_NoClass,
    ks_NoClass_BadTest := kit_sub e16_BadTest e14_BadTest k_NoClass_BadTest e17_NoClass,
    ks_NoClass_BadPart := kit_sub e16_BadPart e14_BadPart k_NoClass_BadPart e17_NoClass,
    ks_NoClass_BadSuite := kit_sub e16_BadSuite e14_BadSuite k_NoClass_BadSuite e17_NoClass,
    ks_NoClass_OtherFamily := kit_sub e16_OtherFamily e14_OtherFamily k_NoClass_OtherFamily e17_NoClass,
    ks_NoClass_BadDemand := kit_sub e16_BadDemand e14_BadDemand k_NoClass_BadDemand e17_NoClass,
    ks_NoClass_BadDeed := kit_sub e16_BadDeed e14_BadDeed k_NoClass_BadDeed e17_NoClass,
    ks_NoClass_NoClass := kit_sub e16_NoClass e14_NoClass k_NoClass_NoClass e17_NoClass,
    ks_NoClass_NoCall := kit_sub e16_NoCall e14_NoCall k_NoClass_NoCall e17_NoClass,
    ks_NoClass_NoTest := kit_sub e16_NoTest e14_NoTest k_NoClass_NoTest e17_NoClass,
    ks_NoClass_NoCheck := kit_sub e16_NoCheck e14_NoCheck k_NoClass_NoCheck e17_NoClass,
    ks_NoClass_NothingToUndo := kit_sub e16_NothingToUndo e14_NothingToUndo k_NoClass_NothingToUndo e17_NoClass,
    ks_NoClass_Raised := kit_sub e16_Raised e14_Raised k_NoClass_Raised e17_NoClass,
    ks_NoClass_WhatpassesError := kit_sub v2_WhatpassesError v1_WhatpassesError k_NoClass_WhatpassesError e17_NoClass,
    ks_NoClass_ValueError := kit_subT (by decide +kernel) k_NoClass_ValueError,
    ks_NoClass_LookupError := kit_subT (by decide +kernel) k_NoClass_LookupError,
    ks_NoClass_RuntimeError := kit_subT (by decide +kernel) k_NoClass_RuntimeError,
    ks_NoClass_KeyError := kit_subT (by decide +kernel) k_NoClass_KeyError,
    ks_NoClass_IndexError := kit_subT (by decide +kernel) k_NoClass_IndexError,
    ks_NoClass_NotImplementedError := kit_subT (by decide +kernel) k_NoClass_NotImplementedError,
    ks_NoCall_BadFamily := kit_sub e16_BadFamily e14_BadFamily k_NoCall_BadFamily e17_NoCall,
    ks_NoCall_BadCall := kit_sub e16_BadCall e14_BadCall k_NoCall_BadCall e17_NoCall,
    ks_NoCall_BadTest := kit_sub e16_BadTest e14_BadTest k_NoCall_BadTest e17_NoCall,
    ks_NoCall_BadPart := kit_sub e16_BadPart e14_BadPart k_NoCall_BadPart e17_NoCall,
    ks_NoCall_BadSuite := kit_sub e16_BadSuite e14_BadSuite k_NoCall_BadSuite e17_NoCall,
    ks_NoCall_OtherFamily := kit_sub e16_OtherFamily e14_OtherFamily k_NoCall_OtherFamily e17_NoCall,
    ks_NoCall_BadDemand := kit_sub e16_BadDemand e14_BadDemand k_NoCall_BadDemand e17_NoCall,
    ks_NoCall_BadDeed := kit_sub e16_BadDeed e14_BadDeed k_NoCall_BadDeed e17_NoCall,
    ks_NoCall_NoClass := kit_sub e16_NoClass e14_NoClass k_NoCall_NoClass e17_NoCall,
    ks_NoCall_NoCall := kit_sub e16_NoCall e14_NoCall k_NoCall_NoCall e17_NoCall,
    ks_NoCall_NoTest := kit_sub e16_NoTest e14_NoTest k_NoCall_NoTest e17_NoCall,
    ks_NoCall_NoCheck := kit_sub e16_NoCheck e14_NoCheck k_NoCall_NoCheck e17_NoCall,
    ks_NoCall_NothingToUndo := kit_sub e16_NothingToUndo e14_NothingToUndo k_NoCall_NothingToUndo e17_NoCall,
    ks_NoCall_Raised := kit_sub e16_Raised e14_Raised k_NoCall_Raised e17_NoCall,
    ks_NoCall_WhatpassesError := kit_sub v2_WhatpassesError v1_WhatpassesError k_NoCall_WhatpassesError e17_NoCall,
    ks_NoCall_ValueError := kit_subT (by decide +kernel) k_NoCall_ValueError,
    ks_NoCall_LookupError := kit_subT (by decide +kernel) k_NoCall_LookupError,
    ks_NoCall_RuntimeError := kit_subT (by decide +kernel) k_NoCall_RuntimeError,
    ks_NoCall_KeyError := kit_subT (by decide +kernel) k_NoCall_KeyError,
    ks_NoCall_IndexError := kit_subT (by decide +kernel) k_NoCall_IndexError,
    ks_NoCall_NotImplementedError := kit_subT (by decide +kernel) k_NoCall_NotImplementedError,
    ks_NoTest_BadFamily := kit_sub e16_BadFamily e14_BadFamily k_NoTest_BadFamily e17_NoTest,
    ks_NoTest_BadCall := kit_sub e16_BadCall e14_BadCall k_NoTest_BadCall e17_NoTest,
    ks_NoTest_BadTest := kit_sub e16_BadTest e14_BadTest k_NoTest_BadTest e17_NoTest,
    ks_NoTest_BadPart := kit_sub e16_BadPart e14_BadPart k_NoTest_BadPart e17_NoTest,
    ks_NoTest_BadSuite := kit_sub e16_BadSuite e14_BadSuite k_NoTest_BadSuite e17_NoTest,
    ks_NoTest_OtherFamily := kit_sub e16_OtherFamily e14_OtherFamily k_NoTest_OtherFamily e17_NoTest,
    ks_NoTest_BadDemand := kit_sub e16_BadDemand e14_BadDemand k_NoTest_BadDemand e17_NoTest,
    ks_NoTest_BadDeed := kit_sub e16_BadDeed e14_BadDeed k_NoTest_BadDeed e17_NoTest,
    ks_NoTest_NoClass := kit_sub e16_NoClass e14_NoClass k_NoTest_NoClass e17_NoTest,
    ks_NoTest_NoCall := kit_sub e16_NoCall e14_NoCall k_NoTest_NoCall e17_NoTest,
    ks_NoTest_NoTest := kit_sub e16_NoTest e14_NoTest k_NoTest_NoTest e17_NoTest,
    ks_NoTest_NoCheck := kit_sub e16_NoCheck e14_NoCheck k_NoTest_NoCheck e17_NoTest,
    ks_NoTest_NothingToUndo := kit_sub e16_NothingToUndo e14_NothingToUndo k_NoTest_NothingToUndo e17_NoTest,
    ks_NoTest_Raised := kit_sub e16_Raised e14_Raised k_NoTest_Raised e17_NoTest,
    ks_NoTest_WhatpassesError := kit_sub v2_WhatpassesError v1_WhatpassesError k_NoTest_WhatpassesError e17_NoTest,
    ks_NoTest_ValueError := kit_subT (by decide +kernel) k_NoTest_ValueError,
    ks_NoTest_LookupError := kit_subT (by decide +kernel) k_NoTest_LookupError,
    ks_NoTest_RuntimeError := kit_subT (by decide +kernel) k_NoTest_RuntimeError,
    ks_NoTest_KeyError := kit_subT (by decide +kernel) k_NoTest_KeyError,
    ks_NoTest_IndexError := kit_subT (by decide +kernel) k_NoTest_IndexError,
    ks_NoTest_NotImplementedError := kit_subT (by decide +kernel) k_NoTest_NotImplementedError,
    ks_NoCheck_BadFamily := kit_sub e16_BadFamily e14_BadFamily k_NoCheck_BadFamily e17_NoCheck,
    ks_NoCheck_BadCall := kit_sub e16_BadCall e14_BadCall k_NoCheck_BadCall e17_NoCheck,
    ks_NoCheck_BadTest := kit_sub e16_BadTest e14_BadTest k_NoCheck_BadTest e17_NoCheck,
    ks_NoCheck_BadPart := kit_sub e16_BadPart e14_BadPart k_NoCheck_BadPart e17_NoCheck,
    ks_NoCheck_BadSuite := kit_sub e16_BadSuite e14_BadSuite k_NoCheck_BadSuite e17_NoCheck,
    ks_NoCheck_OtherFamily := kit_sub e16_OtherFamily e14_OtherFamily k_NoCheck_OtherFamily e17_NoCheck,
    ks_NoCheck_BadDemand := kit_sub e16_BadDemand e14_BadDemand k_NoCheck_BadDemand e17_NoCheck,
    ks_NoCheck_BadDeed := kit_sub e16_BadDeed e14_BadDeed k_NoCheck_BadDeed e17_NoCheck,
    ks_NoCheck_NoClass := kit_sub e16_NoClass e14_NoClass k_NoCheck_NoClass e17_NoCheck,
    ks_NoCheck_NoCall := kit_sub e16_NoCall e14_NoCall k_NoCheck_NoCall e17_NoCheck,
    ks_NoCheck_NoTest := kit_sub e16_NoTest e14_NoTest k_NoCheck_NoTest e17_NoCheck,
    ks_NoCheck_NoCheck := kit_sub e16_NoCheck e14_NoCheck k_NoCheck_NoCheck e17_NoCheck,
    ks_NoCheck_NothingToUndo := kit_sub e16_NothingToUndo e14_NothingToUndo k_NoCheck_NothingToUndo e17_NoCheck,
    ks_NoCheck_Raised := kit_sub e16_Raised e14_Raised k_NoCheck_Raised e17_NoCheck,
    ks_NoCheck_WhatpassesError := kit_sub v2_WhatpassesError v1_WhatpassesError k_NoCheck_WhatpassesError e17_NoCheck,
    ks_NoCheck_ValueError := kit_subT (by decide +kernel) k_NoCheck_ValueError,
    ks_NoCheck_LookupError := kit_subT (by decide +kernel) k_NoCheck_LookupError,
    ks_NoCheck_RuntimeError := kit_subT (by decide +kernel) k_NoCheck_RuntimeError,
    ks_NoCheck_KeyError := kit_subT (by decide +kernel) k_NoCheck_KeyError,
    ks_NoCheck_IndexError := kit_subT (by decide +kernel) k_NoCheck_IndexError,
    ks_NoCheck_NotImplementedError := kit_subT (by decide +kernel) k_NoCheck_NotImplementedError,
    ks_NothingToUndo_BadFamily := kit_sub e16_BadFamily e14_BadFamily k_NothingToUndo_BadFamily e17_NothingToUndo,
    ks_NothingToUndo_BadCall := kit_sub e16_BadCall e14_BadCall k_NothingToUndo_BadCall e17_NothingToUndo,
    ks_NothingToUndo_BadTest := kit_sub e16_BadTest e14_BadTest k_NothingToUndo_BadTest e17_NothingToUndo,
    ks_NothingToUndo_BadPart := kit_sub e16_BadPart e14_BadPart k_NothingToUndo_BadPart e17_NothingToUndo,
    ks_NothingToUndo_BadSuite := kit_sub e16_BadSuite e14_BadSuite k_NothingToUndo_BadSuite e17_NothingToUndo,
    ks_NothingToUndo_OtherFamily := kit_sub e16_OtherFamily e14_OtherFamily k_NothingToUndo_OtherFamily e17_NothingToUndo,
    ks_NothingToUndo_BadDemand := kit_sub e16_BadDemand e14_BadDemand k_NothingToUndo_BadDemand e17_NothingToUndo,
    ks_NothingToUndo_BadDeed := kit_sub e16_BadDeed e14_BadDeed k_NothingToUndo_BadDeed e17_NothingToUndo,
    ks_NothingToUndo_NoClass := kit_sub e16_NoClass e14_NoClass k_NothingToUndo_NoClass e17_NothingToUndo,
    ks_NothingToUndo_NoCall := kit_sub e16_NoCall e14_NoCall k_NothingToUndo_NoCall e17_NothingToUndo,
    ks_NothingToUndo_NoTest := kit_sub e16_NoTest e14_NoTest k_NothingToUndo_NoTest e17_NothingToUndo,
    ks_NothingToUndo_NoCheck := kit_sub e16_NoCheck e14_NoCheck k_NothingToUndo_NoCheck e17_NothingToUndo,
    ks_NothingToUndo_NothingToUndo := kit_sub e16_NothingToUndo e14_NothingToUndo k_NothingToUndo_NothingToUndo e17_NothingToUndo,
    ks_NothingToUndo_Raised := kit_sub e16_Raised e14_Raised k_NothingToUndo_Raised e17_NothingToUndo,
    ks_NothingToUndo_WhatpassesError := kit_sub v2_WhatpassesError v1_WhatpassesError k_NothingToUndo_WhatpassesError e17_NothingToUndo,
    ks_NothingToUndo_ValueError := kit_subT (by decide +kernel) k_NothingToUndo_ValueError,
    ks_NothingToUndo_LookupError := kit_subT (by decide +kernel) k_NothingToUndo_LookupError,
    ks_NothingToUndo_RuntimeError := kit_subT (by decide +kernel) k_NothingToUndo_RuntimeError,
    ks_NothingToUndo_KeyError := kit_subT (by decide +kernel) k_NothingToUndo_KeyError,
    ks_NothingToUndo_IndexError := kit_subT (by decide +kernel) k_NothingToUndo_IndexError,
    ks_NothingToUndo_NotImplementedError := kit_subT (by decide +kernel) k_NothingToUndo_NotImplementedError,
    ks_Raised_BadFamily := kit_sub e16_BadFamily e14_BadFamily k_Raised_BadFamily e17_Raised,
    ks_Raised_BadCall := kit_sub e16_BadCall e14_BadCall k_Raised_BadCall e17_Raised,
    ks_Raised_BadTest := kit_sub e16_BadTest e14_BadTest k_Raised_BadTest e17_Raised,
    ks_Raised_BadPart := kit_sub e16_BadPart e14_BadPart k_Raised_BadPart e17_Raised,
    ks_Raised_BadSuite := kit_sub e16_BadSuite e14_BadSuite k_Raised_BadSuite e17_Raised,
    ks_Raised_OtherFamily := kit_sub e16_OtherFamily e14_OtherFamily k_Raised_OtherFamily e17_Raised,
    ks_Raised_BadDemand := kit_sub e16_BadDemand e14_BadDemand k_Raised_BadDemand e17_Raised,
    ks_Raised_BadDeed := kit_sub e16_BadDeed e14_BadDeed k_Raised_BadDeed e17_Raised,
    ks_Raised_NoClass := kit_sub e16_NoClass e14_NoClass k_Raised_NoClass e17_Raised,
    ks_Raised_NoCall := kit_sub e16_NoCall e14_NoCall k_Raised_NoCall e17_Raised,
    ks_Raised_NoTest := kit_sub e16_NoTest e14_NoTest k_Raised_NoTest e17_Raised,
    ks_Raised_NoCheck := kit_sub e16_NoCheck e14_NoCheck k_Raised_NoCheck e17_Raised,
    ks_Raised_NothingToUndo := kit_sub e16_NothingToUndo e14_NothingToUndo k_Raised_NothingToUndo e17_Raised,
    ks_Raised_Raised := kit_sub e16_Raised e14_Raised k_Raised_Raised e17_Raised,
    ks_Raised_WhatpassesError := kit_sub v2_WhatpassesError v1_WhatpassesError k_Raised_WhatpassesError e17_Raised,
    ks_Raised_ValueError := kit_subT (by decide +kernel) k_Raised_ValueError,
    ks_Raised_LookupError := kit_subT (by decide +kernel) k_Raised_LookupError,
    ks_Raised_RuntimeError := kit_subT (by decide +kernel) k_Raised_RuntimeError,
    ks_Raised_KeyError := kit_subT (by decide +kernel) k_Raised_KeyError,
    ks_Raised_IndexError := kit_subT (by decide +kernel) k_Raised_IndexError,
    ks_Raised_NotImplementedError := kit_subT (by decide +kernel) k_Raised_NotImplementedError,
    m_IndexError := PySem.W.mg_none_of X G z_IndexError, m_KeyError := PySem.W.mg_none_of X G z_KeyError, m_LookupError := PySem.W.mg_none_of X G z_LookupError, m_NotImplementedError := PySem.W.mg_none_of X G z_NotImplementedError, m_RuntimeError := PySem.W.mg_none_of X G z_RuntimeError, m_ValueError := PySem.W.mg_none_of X G z_ValueError, m_abs := PySem.W.mg_none_of X G z_abs, m_any := PySem.W.mg_none_of X G z_any, m_int := PySem.W.mg_none_of X G z_int, m_isinstance := PySem.W.mg_none_of X G z_isinstance, m_len := PySem.W.mg_none_of X G z_len, m_max := PySem.W.mg_none_of X G z_max, m_min := PySem.W.mg_none_of X G z_min, m_range := PySem.W.mg_none_of X G z_range, m_repr := PySem.W.mg_none_of X G z_repr, m_tuple := PySem.W.mg_none_of X G z_tuple
  }
  exact ⟨PySem.W.fnOf "law" "law" (defArgs s_law) (defBody s_law) (defScope s_law) .none kV8 dc8 pm8 an8 cd8 ct8, fun s v => .of_eq rfl, fun base _ _ => ok_law T F8⟩
end Lw
open PySem PySem.W PyProof.Rows in
set_option maxRecDepth 100000 in
set_option maxHeartbeats 0 in
theorem PySem.Challenge.cw_whatpasses_k11_errors_made_holds : PySem.Challenge.rw_whatpasses_k11_errors_made.Holds := by
  w_on; o_law; k_head; (case hw => w_witness2)
  k_fill
  refine Lw.walk_top (l := PySem.Challenge.rw_whatpasses_k11_errors_made) (n := 63) (k := 9) (x := "script") (sp := fun w => Lw.spLaw _) rfl (by decide) rfl ⟨rfl, by decide, by decide⟩ (fun w h Y => PySem.W.kIn_of Y) ?F (fun _ _ a ns hl hb _ hS => ⟨a, ns, rfl, hS, hl, hb, fun _ => rfl⟩)
  case F =>
    intro w mg fa h KX G hmg
    refine' Lw.all_mk KX G hmg ?a0 ?l0 ?c0 ?k0 ?a1 ?l1 ?c1 ?k1 ?a2 ?l2 ?c2 ?k2 ?a3 ?l3 ?c3 ?k3 ?a4 ?l4 ?c4 ?k4 ?a5 ?l5 ?c5 ?k5 ?a6 ?l6 ?c6 ?k6 ?a7 ?l7 ?c7 ?k7 ?a8 ?l8 ?c8 ?k8 ?v0_WhatpassesError ?v1_WhatpassesError ?v2_WhatpassesError ?e1_BadFamily ?e4_BadFamily ?e5_BadFamily ?e12_BadFamily ?e13_BadFamily ?e14_BadFamily ?e15_BadFamily ?e16_BadFamily ?e17_BadFamily ?v4_BadFamily ?v5_BadFamily ?v6_BadFamily ?v7_BadFamily ?e3_BadFamily ?e6at_BadFamily ?e7_BadFamily ?e8_BadFamily ?e9_BadFamily ?e10_BadFamily ?e11_BadFamily ?e18_BadFamily ?e19_BadFamily ?e1_BadCall ?e4_BadCall ?e5_BadCall ?e12_BadCall ?e13_BadCall ?e14_BadCall ?e15_BadCall ?e16_BadCall ?e17_BadCall ?v4_BadCall ?v5_BadCall ?v6_BadCall ?v7_BadCall ?e3_BadCall ?e6at_BadCall ?e7_BadCall ?e8_BadCall ?e9_BadCall ?e10_BadCall ?e11_BadCall ?e18_BadCall ?e19_BadCall ?e1_BadTest ?e4_BadTest ?e5_BadTest ?e12_BadTest ?e13_BadTest ?e14_BadTest ?e15_BadTest ?e16_BadTest ?e17_BadTest ?v4_BadTest ?v5_BadTest ?v6_BadTest ?v7_BadTest ?e3_BadTest ?e6at_BadTest ?e7_BadTest ?e8_BadTest ?e9_BadTest ?e10_BadTest ?e11_BadTest ?e18_BadTest ?e19_BadTest ?e1_BadPart ?e4_BadPart ?e5_BadPart ?e12_BadPart ?e13_BadPart ?e14_BadPart ?e15_BadPart ?e16_BadPart ?e17_BadPart ?v4_BadPart ?v5_BadPart ?v6_BadPart ?v7_BadPart ?e3_BadPart ?e6at_BadPart ?e7_BadPart ?e8_BadPart ?e9_BadPart ?e10_BadPart ?e11_BadPart ?e18_BadPart ?e19_BadPart ?e1_BadSuite ?e4_BadSuite ?e5_BadSuite ?e12_BadSuite ?e13_BadSuite ?e14_BadSuite ?e15_BadSuite ?e16_BadSuite ?e17_BadSuite ?v4_BadSuite ?v5_BadSuite ?v6_BadSuite ?v7_BadSuite ?e3_BadSuite ?e6at_BadSuite ?e7_BadSuite ?e8_BadSuite ?e9_BadSuite ?e10_BadSuite ?e11_BadSuite ?e18_BadSuite ?e19_BadSuite ?e1_OtherFamily ?e4_OtherFamily ?e5_OtherFamily ?e12_OtherFamily ?e13_OtherFamily ?e14_OtherFamily ?e15_OtherFamily ?e16_OtherFamily ?e17_OtherFamily ?v4_OtherFamily ?v5_OtherFamily ?v6_OtherFamily ?v7_OtherFamily ?e3_OtherFamily ?e6at_OtherFamily ?e7_OtherFamily ?e8_OtherFamily ?e9_OtherFamily ?e10_OtherFamily ?e11_OtherFamily ?e18_OtherFamily ?e19_OtherFamily ?e1_BadDemand ?e4_BadDemand ?e5_BadDemand ?e12_BadDemand ?e13_BadDemand ?e14_BadDemand ?e15_BadDemand ?e16_BadDemand ?e17_BadDemand ?v4_BadDemand ?v5_BadDemand ?v6_BadDemand ?v7_BadDemand ?e3_BadDemand ?e6at_BadDemand ?e7_BadDemand ?e8_BadDemand ?e9_BadDemand ?e10_BadDemand ?e11_BadDemand ?e18_BadDemand ?e19_BadDemand ?e1_BadDeed ?e4_BadDeed ?e5_BadDeed ?e12_BadDeed ?e13_BadDeed ?e14_BadDeed ?e15_BadDeed ?e16_BadDeed ?e17_BadDeed ?v4_BadDeed ?v5_BadDeed ?v6_BadDeed ?v7_BadDeed ?e3_BadDeed ?e6at_BadDeed ?e7_BadDeed ?e8_BadDeed ?e9_BadDeed ?e10_BadDeed ?e11_BadDeed ?e18_BadDeed ?e19_BadDeed ?e1_NoClass ?e4_NoClass ?e5_NoClass ?e12_NoClass ?e13_NoClass ?e14_NoClass ?e15_NoClass ?e16_NoClass ?e17_NoClass ?v4_NoClass ?v5_NoClass ?v6_NoClass ?v7_NoClass ?e3_NoClass ?e6name_NoClass ?e7_NoClass ?e8_NoClass ?e9_NoClass ?e10_NoClass ?e11_NoClass ?e18_NoClass ?e19_NoClass ?e1_NoCall ?e4_NoCall ?e5_NoCall ?e12_NoCall ?e13_NoCall ?e14_NoCall ?e15_NoCall ?e16_NoCall ?e17_NoCall ?v4_NoCall ?v5_NoCall ?v6_NoCall ?v7_NoCall ?e3_NoCall ?e6text_NoCall ?e7_NoCall ?e8_NoCall ?e9_NoCall ?e10_NoCall ?e11_NoCall ?e18_NoCall ?e19_NoCall ?e1_NoTest ?e4_NoTest ?e5_NoTest ?e12_NoTest ?e13_NoTest ?e14_NoTest ?e15_NoTest ?e16_NoTest ?e17_NoTest ?v4_NoTest ?v5_NoTest ?v6_NoTest ?v7_NoTest ?e3_NoTest ?e6name_NoTest ?e7_NoTest ?e8_NoTest ?e9_NoTest ?e10_NoTest ?e11_NoTest ?e18_NoTest ?e19_NoTest ?e1_NoCheck ?e4_NoCheck ?e5_NoCheck ?e12_NoCheck ?e13_NoCheck ?e14_NoCheck ?e15_NoCheck ?e16_NoCheck ?e17_NoCheck ?v4_NoCheck ?v5_NoCheck ?v6_NoCheck ?v7_NoCheck ?e3_NoCheck ?e6line_NoCheck ?e7_NoCheck ?e8_NoCheck ?e9_NoCheck ?e10_NoCheck ?e11_NoCheck ?e18_NoCheck ?e19_NoCheck ?e1_NothingToUndo ?e4_NothingToUndo ?e5_NothingToUndo ?e12_NothingToUndo ?e13_NothingToUndo ?e14_NothingToUndo ?e15_NothingToUndo ?e16_NothingToUndo ?e17_NothingToUndo ?v4_NothingToUndo ?v5_NothingToUndo ?v6_NothingToUndo ?v7_NothingToUndo ?e20_NothingToUndo ?e1_Raised ?e4_Raised ?e5_Raised ?e12_Raised ?e13_Raised ?e14_Raised ?e15_Raised ?e16_Raised ?e17_Raised ?v4_Raised ?v5_Raised ?v6_Raised ?v7_Raised ?e3_Raised ?e6kind_Raised ?e6cause_Raised ?e7_Raised ?e8_Raised ?e9_Raised ?e10_Raised ?e11_Raised ?e18_Raised ?e19_Raised ?k_BadFamily_BadFamily ?k_BadFamily_BadCall ?k_BadFamily_BadTest ?k_BadFamily_BadPart ?k_BadFamily_BadSuite ?k_BadFamily_OtherFamily ?k_BadFamily_BadDemand ?k_BadFamily_BadDeed ?k_BadFamily_NoClass ?k_BadFamily_NoCall ?k_BadFamily_NoTest ?k_BadFamily_NoCheck ?k_BadFamily_NothingToUndo ?k_BadFamily_Raised ?k_BadFamily_WhatpassesError ?k_BadFamily_ValueError ?k_BadFamily_LookupError ?k_BadFamily_RuntimeError ?k_BadFamily_KeyError ?k_BadFamily_IndexError ?k_BadFamily_NotImplementedError ?k_BadCall_BadFamily ?k_BadCall_BadCall ?k_BadCall_BadTest ?k_BadCall_BadPart ?k_BadCall_BadSuite ?k_BadCall_OtherFamily ?k_BadCall_BadDemand ?k_BadCall_BadDeed ?k_BadCall_NoClass ?k_BadCall_NoCall ?k_BadCall_NoTest ?k_BadCall_NoCheck ?k_BadCall_NothingToUndo ?k_BadCall_Raised ?k_BadCall_WhatpassesError ?k_BadCall_ValueError ?k_BadCall_LookupError ?k_BadCall_RuntimeError ?k_BadCall_KeyError ?k_BadCall_IndexError ?k_BadCall_NotImplementedError ?k_BadTest_BadFamily ?k_BadTest_BadCall ?k_BadTest_BadTest ?k_BadTest_BadPart ?k_BadTest_BadSuite ?k_BadTest_OtherFamily ?k_BadTest_BadDemand ?k_BadTest_BadDeed ?k_BadTest_NoClass ?k_BadTest_NoCall ?k_BadTest_NoTest ?k_BadTest_NoCheck ?k_BadTest_NothingToUndo ?k_BadTest_Raised ?k_BadTest_WhatpassesError ?k_BadTest_ValueError ?k_BadTest_LookupError ?k_BadTest_RuntimeError ?k_BadTest_KeyError ?k_BadTest_IndexError ?k_BadTest_NotImplementedError ?k_BadPart_BadFamily ?k_BadPart_BadCall ?k_BadPart_BadTest ?k_BadPart_BadPart ?k_BadPart_BadSuite ?k_BadPart_OtherFamily ?k_BadPart_BadDemand ?k_BadPart_BadDeed ?k_BadPart_NoClass ?k_BadPart_NoCall ?k_BadPart_NoTest ?k_BadPart_NoCheck ?k_BadPart_NothingToUndo ?k_BadPart_Raised ?k_BadPart_WhatpassesError ?k_BadPart_ValueError ?k_BadPart_LookupError ?k_BadPart_RuntimeError ?k_BadPart_KeyError ?k_BadPart_IndexError ?k_BadPart_NotImplementedError ?k_BadSuite_BadFamily ?k_BadSuite_BadCall ?k_BadSuite_BadTest ?k_BadSuite_BadPart ?k_BadSuite_BadSuite ?k_BadSuite_OtherFamily ?k_BadSuite_BadDemand ?k_BadSuite_BadDeed ?k_BadSuite_NoClass ?k_BadSuite_NoCall ?k_BadSuite_NoTest ?k_BadSuite_NoCheck ?k_BadSuite_NothingToUndo ?k_BadSuite_Raised ?k_BadSuite_WhatpassesError ?k_BadSuite_ValueError ?k_BadSuite_LookupError ?k_BadSuite_RuntimeError ?k_BadSuite_KeyError ?k_BadSuite_IndexError ?k_BadSuite_NotImplementedError ?k_OtherFamily_BadFamily ?k_OtherFamily_BadCall ?k_OtherFamily_BadTest ?k_OtherFamily_BadPart ?k_OtherFamily_BadSuite ?k_OtherFamily_OtherFamily ?k_OtherFamily_BadDemand ?k_OtherFamily_BadDeed ?k_OtherFamily_NoClass ?k_OtherFamily_NoCall ?k_OtherFamily_NoTest ?k_OtherFamily_NoCheck ?k_OtherFamily_NothingToUndo ?k_OtherFamily_Raised ?k_OtherFamily_WhatpassesError ?k_OtherFamily_ValueError ?k_OtherFamily_LookupError ?k_OtherFamily_RuntimeError ?k_OtherFamily_KeyError ?k_OtherFamily_IndexError ?k_OtherFamily_NotImplementedError ?k_BadDemand_BadFamily ?k_BadDemand_BadCall ?k_BadDemand_BadTest ?k_BadDemand_BadPart ?k_BadDemand_BadSuite ?k_BadDemand_OtherFamily ?k_BadDemand_BadDemand ?k_BadDemand_BadDeed ?k_BadDemand_NoClass ?k_BadDemand_NoCall ?k_BadDemand_NoTest ?k_BadDemand_NoCheck ?k_BadDemand_NothingToUndo ?k_BadDemand_Raised ?k_BadDemand_WhatpassesError ?k_BadDemand_ValueError ?k_BadDemand_LookupError ?k_BadDemand_RuntimeError ?k_BadDemand_KeyError ?k_BadDemand_IndexError ?k_BadDemand_NotImplementedError ?k_BadDeed_BadFamily ?k_BadDeed_BadCall ?k_BadDeed_BadTest ?k_BadDeed_BadPart ?k_BadDeed_BadSuite ?k_BadDeed_OtherFamily ?k_BadDeed_BadDemand ?k_BadDeed_BadDeed ?k_BadDeed_NoClass ?k_BadDeed_NoCall ?k_BadDeed_NoTest ?k_BadDeed_NoCheck ?k_BadDeed_NothingToUndo ?k_BadDeed_Raised ?k_BadDeed_WhatpassesError ?k_BadDeed_ValueError ?k_BadDeed_LookupError ?k_BadDeed_RuntimeError ?k_BadDeed_KeyError ?k_BadDeed_IndexError ?k_BadDeed_NotImplementedError ?k_NoClass_BadFamily ?k_NoClass_BadCall ?k_NoClass_BadTest ?k_NoClass_BadPart ?k_NoClass_BadSuite ?k_NoClass_OtherFamily ?k_NoClass_BadDemand ?k_NoClass_BadDeed ?k_NoClass_NoClass ?k_NoClass_NoCall ?k_NoClass_NoTest ?k_NoClass_NoCheck ?k_NoClass_NothingToUndo ?k_NoClass_Raised ?k_NoClass_WhatpassesError ?k_NoClass_ValueError ?k_NoClass_LookupError ?k_NoClass_RuntimeError ?k_NoClass_KeyError ?k_NoClass_IndexError ?k_NoClass_NotImplementedError ?k_NoCall_BadFamily ?k_NoCall_BadCall ?k_NoCall_BadTest ?k_NoCall_BadPart ?k_NoCall_BadSuite ?k_NoCall_OtherFamily ?k_NoCall_BadDemand ?k_NoCall_BadDeed ?k_NoCall_NoClass ?k_NoCall_NoCall ?k_NoCall_NoTest ?k_NoCall_NoCheck ?k_NoCall_NothingToUndo ?k_NoCall_Raised ?k_NoCall_WhatpassesError ?k_NoCall_ValueError ?k_NoCall_LookupError ?k_NoCall_RuntimeError ?k_NoCall_KeyError ?k_NoCall_IndexError ?k_NoCall_NotImplementedError ?k_NoTest_BadFamily ?k_NoTest_BadCall ?k_NoTest_BadTest ?k_NoTest_BadPart ?k_NoTest_BadSuite ?k_NoTest_OtherFamily ?k_NoTest_BadDemand ?k_NoTest_BadDeed ?k_NoTest_NoClass ?k_NoTest_NoCall ?k_NoTest_NoTest ?k_NoTest_NoCheck ?k_NoTest_NothingToUndo ?k_NoTest_Raised ?k_NoTest_WhatpassesError ?k_NoTest_ValueError ?k_NoTest_LookupError ?k_NoTest_RuntimeError ?k_NoTest_KeyError ?k_NoTest_IndexError ?k_NoTest_NotImplementedError ?k_NoCheck_BadFamily ?k_NoCheck_BadCall ?k_NoCheck_BadTest ?k_NoCheck_BadPart ?k_NoCheck_BadSuite ?k_NoCheck_OtherFamily ?k_NoCheck_BadDemand ?k_NoCheck_BadDeed ?k_NoCheck_NoClass ?k_NoCheck_NoCall ?k_NoCheck_NoTest ?k_NoCheck_NoCheck ?k_NoCheck_NothingToUndo ?k_NoCheck_Raised ?k_NoCheck_WhatpassesError ?k_NoCheck_ValueError ?k_NoCheck_LookupError ?k_NoCheck_RuntimeError ?k_NoCheck_KeyError ?k_NoCheck_IndexError ?k_NoCheck_NotImplementedError ?k_NothingToUndo_BadFamily ?k_NothingToUndo_BadCall ?k_NothingToUndo_BadTest ?k_NothingToUndo_BadPart ?k_NothingToUndo_BadSuite ?k_NothingToUndo_OtherFamily ?k_NothingToUndo_BadDemand ?k_NothingToUndo_BadDeed ?k_NothingToUndo_NoClass ?k_NothingToUndo_NoCall ?k_NothingToUndo_NoTest ?k_NothingToUndo_NoCheck ?k_NothingToUndo_NothingToUndo ?k_NothingToUndo_Raised ?k_NothingToUndo_WhatpassesError ?k_NothingToUndo_ValueError ?k_NothingToUndo_LookupError ?k_NothingToUndo_RuntimeError ?k_NothingToUndo_KeyError ?k_NothingToUndo_IndexError ?k_NothingToUndo_NotImplementedError ?k_Raised_BadFamily ?k_Raised_BadCall ?k_Raised_BadTest ?k_Raised_BadPart ?k_Raised_BadSuite ?k_Raised_OtherFamily ?k_Raised_BadDemand ?k_Raised_BadDeed ?k_Raised_NoClass ?k_Raised_NoCall ?k_Raised_NoTest ?k_Raised_NoCheck ?k_Raised_NothingToUndo ?k_Raised_Raised ?k_Raised_WhatpassesError ?k_Raised_ValueError ?k_Raised_LookupError ?k_Raised_RuntimeError ?k_Raised_KeyError ?k_Raised_IndexError ?k_Raised_NotImplementedError ?z_IndexError ?z_KeyError ?z_LookupError ?z_NotImplementedError ?z_RuntimeError ?z_ValueError ?z_abs ?z_any ?z_int ?z_isinstance ?z_len ?z_max ?z_min ?z_range ?z_repr ?z_tuple
    (case a0 => first | k_is | kx_is | k_exc)
    (case l0 => first | k_is | kx_is | k_exc)
    (case c0 => first | k_is | kx_is | k_exc)
    (case k0 => first | k_is | kx_is | k_exc)
    (case a1 => first | k_is | kx_is | k_exc)
    (case l1 => first | k_is | kx_is | k_exc)
    (case c1 => first | k_is | kx_is | k_exc)
    (case k1 => first | k_is | kx_is | k_exc)
    (case a2 => first | k_is | kx_is | k_exc)
    (case l2 => first | k_is | kx_is | k_exc)
    (case c2 => first | k_is | kx_is | k_exc)
    (case k2 => first | k_is | kx_is | k_exc)
    (case a3 => first | k_is | kx_is | k_exc)
    (case l3 => first | k_is | kx_is | k_exc)
    (case c3 => first | k_is | kx_is | k_exc)
    (case k3 => first | k_is | kx_is | k_exc)
    (case a4 => first | k_is | kx_is | k_exc)
    (case l4 => first | k_is | kx_is | k_exc)
    (case c4 => first | k_is | kx_is | k_exc)
    (case k4 => first | k_is | kx_is | k_exc)
    (case a5 => first | k_is | kx_is | k_exc)
    (case l5 => first | k_is | kx_is | k_exc)
    (case c5 => first | k_is | kx_is | k_exc)
    (case k5 => first | k_is | kx_is | k_exc)
    (case a6 => first | k_is | kx_is | k_exc)
    (case l6 => first | k_is | kx_is | k_exc)
    (case c6 => first | k_is | kx_is | k_exc)
    (case k6 => first | k_is | kx_is | k_exc)
    (case a7 => first | k_is | kx_is | k_exc)
    (case l7 => first | k_is | kx_is | k_exc)
    (case c7 => first | k_is | kx_is | k_exc)
    (case k7 => first | k_is | kx_is | k_exc)
    (case a8 => first | k_is | kx_is | k_exc)
    (case l8 => first | k_is | kx_is | k_exc)
    (case c8 => first | k_is | kx_is | k_exc)
    (case k8 => first | k_is | kx_is | k_exc)
    (case v0_WhatpassesError => first | k_is | kx_is | k_exc)
    (case v1_WhatpassesError => first | k_is | kx_is | k_exc)
    (case v2_WhatpassesError => first | k_is | kx_is | k_exc)
    (case e1_BadFamily => first | k_is | kx_is | k_exc)
    (case e4_BadFamily => first | k_is | kx_is | k_exc)
    (case e5_BadFamily => first | k_is | kx_is | k_exc)
    (case e12_BadFamily => first | k_is | kx_is | k_exc)
    (case e13_BadFamily => first | k_is | kx_is | k_exc)
    (case e14_BadFamily => first | k_is | kx_is | k_exc)
    (case e15_BadFamily => first | k_is | kx_is | k_exc)
    (case e16_BadFamily => first | k_is | kx_is | k_exc)
    (case e17_BadFamily => first | k_is | kx_is | k_exc)
    (case v4_BadFamily => first | k_is | kx_is | k_exc)
    (case v5_BadFamily => first | k_is | kx_is | k_exc)
    (case v6_BadFamily => first | k_is | kx_is | k_exc)
    (case v7_BadFamily => first | k_is | kx_is | k_exc)
    (case e3_BadFamily => first | k_is | kx_is | k_exc)
    (case e6at_BadFamily => first | k_is | kx_is | k_exc)
    (case e7_BadFamily => first | k_is | kx_is | k_exc)
    (case e8_BadFamily => first | k_is | kx_is | k_exc)
    (case e9_BadFamily => first | k_is | kx_is | k_exc)
    (case e10_BadFamily => first | k_is | kx_is | k_exc)
    (case e11_BadFamily => first | k_is | kx_is | k_exc)
    (case e18_BadFamily => first | k_is | kx_is | k_exc)
    (case e19_BadFamily => first | k_is | kx_is | k_exc)
    (case e1_BadCall => first | k_is | kx_is | k_exc)
    (case e4_BadCall => first | k_is | kx_is | k_exc)
    (case e5_BadCall => first | k_is | kx_is | k_exc)
    (case e12_BadCall => first | k_is | kx_is | k_exc)
    (case e13_BadCall => first | k_is | kx_is | k_exc)
    (case e14_BadCall => first | k_is | kx_is | k_exc)
    (case e15_BadCall => first | k_is | kx_is | k_exc)
    (case e16_BadCall => first | k_is | kx_is | k_exc)
    (case e17_BadCall => first | k_is | kx_is | k_exc)
    (case v4_BadCall => first | k_is | kx_is | k_exc)
    (case v5_BadCall => first | k_is | kx_is | k_exc)
    (case v6_BadCall => first | k_is | kx_is | k_exc)
    (case v7_BadCall => first | k_is | kx_is | k_exc)
    (case e3_BadCall => first | k_is | kx_is | k_exc)
    (case e6at_BadCall => first | k_is | kx_is | k_exc)
    (case e7_BadCall => first | k_is | kx_is | k_exc)
    (case e8_BadCall => first | k_is | kx_is | k_exc)
    (case e9_BadCall => first | k_is | kx_is | k_exc)
    (case e10_BadCall => first | k_is | kx_is | k_exc)
    (case e11_BadCall => first | k_is | kx_is | k_exc)
    (case e18_BadCall => first | k_is | kx_is | k_exc)
    (case e19_BadCall => first | k_is | kx_is | k_exc)
    (case e1_BadTest => first | k_is | kx_is | k_exc)
    (case e4_BadTest => first | k_is | kx_is | k_exc)
    (case e5_BadTest => first | k_is | kx_is | k_exc)
    (case e12_BadTest => first | k_is | kx_is | k_exc)
    (case e13_BadTest => first | k_is | kx_is | k_exc)
    (case e14_BadTest => first | k_is | kx_is | k_exc)
    (case e15_BadTest => first | k_is | kx_is | k_exc)
    (case e16_BadTest => first | k_is | kx_is | k_exc)
    (case e17_BadTest => first | k_is | kx_is | k_exc)
    (case v4_BadTest => first | k_is | kx_is | k_exc)
    (case v5_BadTest => first | k_is | kx_is | k_exc)
    (case v6_BadTest => first | k_is | kx_is | k_exc)
    (case v7_BadTest => first | k_is | kx_is | k_exc)
    (case e3_BadTest => first | k_is | kx_is | k_exc)
    (case e6at_BadTest => first | k_is | kx_is | k_exc)
    (case e7_BadTest => first | k_is | kx_is | k_exc)
    (case e8_BadTest => first | k_is | kx_is | k_exc)
    (case e9_BadTest => first | k_is | kx_is | k_exc)
    (case e10_BadTest => first | k_is | kx_is | k_exc)
    (case e11_BadTest => first | k_is | kx_is | k_exc)
    (case e18_BadTest => first | k_is | kx_is | k_exc)
    (case e19_BadTest => first | k_is | kx_is | k_exc)
    (case e1_BadPart => first | k_is | kx_is | k_exc)
    (case e4_BadPart => first | k_is | kx_is | k_exc)
    (case e5_BadPart => first | k_is | kx_is | k_exc)
    (case e12_BadPart => first | k_is | kx_is | k_exc)
    (case e13_BadPart => first | k_is | kx_is | k_exc)
    (case e14_BadPart => first | k_is | kx_is | k_exc)
    (case e15_BadPart => first | k_is | kx_is | k_exc)
    (case e16_BadPart => first | k_is | kx_is | k_exc)
    (case e17_BadPart => first | k_is | kx_is | k_exc)
    (case v4_BadPart => first | k_is | kx_is | k_exc)
    (case v5_BadPart => first | k_is | kx_is | k_exc)
    (case v6_BadPart => first | k_is | kx_is | k_exc)
    (case v7_BadPart => first | k_is | kx_is | k_exc)
    (case e3_BadPart => first | k_is | kx_is | k_exc)
    (case e6at_BadPart => first | k_is | kx_is | k_exc)
    (case e7_BadPart => first | k_is | kx_is | k_exc)
    (case e8_BadPart => first | k_is | kx_is | k_exc)
    (case e9_BadPart => first | k_is | kx_is | k_exc)
    (case e10_BadPart => first | k_is | kx_is | k_exc)
    (case e11_BadPart => first | k_is | kx_is | k_exc)
    (case e18_BadPart => first | k_is | kx_is | k_exc)
    (case e19_BadPart => first | k_is | kx_is | k_exc)
    (case e1_BadSuite => first | k_is | kx_is | k_exc)
    (case e4_BadSuite => first | k_is | kx_is | k_exc)
    (case e5_BadSuite => first | k_is | kx_is | k_exc)
    (case e12_BadSuite => first | k_is | kx_is | k_exc)
    (case e13_BadSuite => first | k_is | kx_is | k_exc)
    (case e14_BadSuite => first | k_is | kx_is | k_exc)
    (case e15_BadSuite => first | k_is | kx_is | k_exc)
    (case e16_BadSuite => first | k_is | kx_is | k_exc)
    (case e17_BadSuite => first | k_is | kx_is | k_exc)
    (case v4_BadSuite => first | k_is | kx_is | k_exc)
    (case v5_BadSuite => first | k_is | kx_is | k_exc)
    (case v6_BadSuite => first | k_is | kx_is | k_exc)
    (case v7_BadSuite => first | k_is | kx_is | k_exc)
    (case e3_BadSuite => first | k_is | kx_is | k_exc)
    (case e6at_BadSuite => first | k_is | kx_is | k_exc)
    (case e7_BadSuite => first | k_is | kx_is | k_exc)
    (case e8_BadSuite => first | k_is | kx_is | k_exc)
    (case e9_BadSuite => first | k_is | kx_is | k_exc)
    (case e10_BadSuite => first | k_is | kx_is | k_exc)
    (case e11_BadSuite => first | k_is | kx_is | k_exc)
    (case e18_BadSuite => first | k_is | kx_is | k_exc)
    (case e19_BadSuite => first | k_is | kx_is | k_exc)
    (case e1_OtherFamily => first | k_is | kx_is | k_exc)
    (case e4_OtherFamily => first | k_is | kx_is | k_exc)
    (case e5_OtherFamily => first | k_is | kx_is | k_exc)
    (case e12_OtherFamily => first | k_is | kx_is | k_exc)
    (case e13_OtherFamily => first | k_is | kx_is | k_exc)
    (case e14_OtherFamily => first | k_is | kx_is | k_exc)
    (case e15_OtherFamily => first | k_is | kx_is | k_exc)
    (case e16_OtherFamily => first | k_is | kx_is | k_exc)
    (case e17_OtherFamily => first | k_is | kx_is | k_exc)
    (case v4_OtherFamily => first | k_is | kx_is | k_exc)
    (case v5_OtherFamily => first | k_is | kx_is | k_exc)
    (case v6_OtherFamily => first | k_is | kx_is | k_exc)
    (case v7_OtherFamily => first | k_is | kx_is | k_exc)
    (case e3_OtherFamily => first | k_is | kx_is | k_exc)
    (case e6at_OtherFamily => first | k_is | kx_is | k_exc)
    (case e7_OtherFamily => first | k_is | kx_is | k_exc)
    (case e8_OtherFamily => first | k_is | kx_is | k_exc)
    (case e9_OtherFamily => first | k_is | kx_is | k_exc)
    (case e10_OtherFamily => first | k_is | kx_is | k_exc)
    (case e11_OtherFamily => first | k_is | kx_is | k_exc)
    (case e18_OtherFamily => first | k_is | kx_is | k_exc)
    (case e19_OtherFamily => first | k_is | kx_is | k_exc)
    (case e1_BadDemand => first | k_is | kx_is | k_exc)
    (case e4_BadDemand => first | k_is | kx_is | k_exc)
    (case e5_BadDemand => first | k_is | kx_is | k_exc)
    (case e12_BadDemand => first | k_is | kx_is | k_exc)
    (case e13_BadDemand => first | k_is | kx_is | k_exc)
    (case e14_BadDemand => first | k_is | kx_is | k_exc)
    (case e15_BadDemand => first | k_is | kx_is | k_exc)
    (case e16_BadDemand => first | k_is | kx_is | k_exc)
    (case e17_BadDemand => first | k_is | kx_is | k_exc)
    (case v4_BadDemand => first | k_is | kx_is | k_exc)
    (case v5_BadDemand => first | k_is | kx_is | k_exc)
    (case v6_BadDemand => first | k_is | kx_is | k_exc)
    (case v7_BadDemand => first | k_is | kx_is | k_exc)
    (case e3_BadDemand => first | k_is | kx_is | k_exc)
    (case e6at_BadDemand => first | k_is | kx_is | k_exc)
    (case e7_BadDemand => first | k_is | kx_is | k_exc)
    (case e8_BadDemand => first | k_is | kx_is | k_exc)
    (case e9_BadDemand => first | k_is | kx_is | k_exc)
    (case e10_BadDemand => first | k_is | kx_is | k_exc)
    (case e11_BadDemand => first | k_is | kx_is | k_exc)
    (case e18_BadDemand => first | k_is | kx_is | k_exc)
    (case e19_BadDemand => first | k_is | kx_is | k_exc)
    (case e1_BadDeed => first | k_is | kx_is | k_exc)
    (case e4_BadDeed => first | k_is | kx_is | k_exc)
    (case e5_BadDeed => first | k_is | kx_is | k_exc)
    (case e12_BadDeed => first | k_is | kx_is | k_exc)
    (case e13_BadDeed => first | k_is | kx_is | k_exc)
    (case e14_BadDeed => first | k_is | kx_is | k_exc)
    (case e15_BadDeed => first | k_is | kx_is | k_exc)
    (case e16_BadDeed => first | k_is | kx_is | k_exc)
    (case e17_BadDeed => first | k_is | kx_is | k_exc)
    (case v4_BadDeed => first | k_is | kx_is | k_exc)
    (case v5_BadDeed => first | k_is | kx_is | k_exc)
    (case v6_BadDeed => first | k_is | kx_is | k_exc)
    (case v7_BadDeed => first | k_is | kx_is | k_exc)
    (case e3_BadDeed => first | k_is | kx_is | k_exc)
    (case e6at_BadDeed => first | k_is | kx_is | k_exc)
    (case e7_BadDeed => first | k_is | kx_is | k_exc)
    (case e8_BadDeed => first | k_is | kx_is | k_exc)
    (case e9_BadDeed => first | k_is | kx_is | k_exc)
    (case e10_BadDeed => first | k_is | kx_is | k_exc)
    (case e11_BadDeed => first | k_is | kx_is | k_exc)
    (case e18_BadDeed => first | k_is | kx_is | k_exc)
    (case e19_BadDeed => first | k_is | kx_is | k_exc)
    (case e1_NoClass => first | k_is | kx_is | k_exc)
    (case e4_NoClass => first | k_is | kx_is | k_exc)
    (case e5_NoClass => first | k_is | kx_is | k_exc)
    (case e12_NoClass => first | k_is | kx_is | k_exc)
    (case e13_NoClass => first | k_is | kx_is | k_exc)
    (case e14_NoClass => first | k_is | kx_is | k_exc)
    (case e15_NoClass => first | k_is | kx_is | k_exc)
    (case e16_NoClass => first | k_is | kx_is | k_exc)
    (case e17_NoClass => first | k_is | kx_is | k_exc)
    (case v4_NoClass => first | k_is | kx_is | k_exc)
    (case v5_NoClass => first | k_is | kx_is | k_exc)
    (case v6_NoClass => first | k_is | kx_is | k_exc)
    (case v7_NoClass => first | k_is | kx_is | k_exc)
    (case e3_NoClass => first | k_is | kx_is | k_exc)
    (case e6name_NoClass => first | k_is | kx_is | k_exc)
    (case e7_NoClass => first | k_is | kx_is | k_exc)
    (case e8_NoClass => first | k_is | kx_is | k_exc)
    (case e9_NoClass => first | k_is | kx_is | k_exc)
    (case e10_NoClass => first | k_is | kx_is | k_exc)
    (case e11_NoClass => first | k_is | kx_is | k_exc)
    (case e18_NoClass => first | k_is | kx_is | k_exc)
    (case e19_NoClass => first | k_is | kx_is | k_exc)
    (case e1_NoCall => first | k_is | kx_is | k_exc)
    (case e4_NoCall => first | k_is | kx_is | k_exc)
    (case e5_NoCall => first | k_is | kx_is | k_exc)
    (case e12_NoCall => first | k_is | kx_is | k_exc)
    (case e13_NoCall => first | k_is | kx_is | k_exc)
    (case e14_NoCall => first | k_is | kx_is | k_exc)
    (case e15_NoCall => first | k_is | kx_is | k_exc)
    (case e16_NoCall => first | k_is | kx_is | k_exc)
    (case e17_NoCall => first | k_is | kx_is | k_exc)
    (case v4_NoCall => first | k_is | kx_is | k_exc)
    (case v5_NoCall => first | k_is | kx_is | k_exc)
    (case v6_NoCall => first | k_is | kx_is | k_exc)
    (case v7_NoCall => first | k_is | kx_is | k_exc)
    (case e3_NoCall => first | k_is | kx_is | k_exc)
    (case e6text_NoCall => first | k_is | kx_is | k_exc)
    (case e7_NoCall => first | k_is | kx_is | k_exc)
    (case e8_NoCall => first | k_is | kx_is | k_exc)
    (case e9_NoCall => first | k_is | kx_is | k_exc)
    (case e10_NoCall => first | k_is | kx_is | k_exc)
    (case e11_NoCall => first | k_is | kx_is | k_exc)
    (case e18_NoCall => first | k_is | kx_is | k_exc)
    (case e19_NoCall => first | k_is | kx_is | k_exc)
    (case e1_NoTest => first | k_is | kx_is | k_exc)
    (case e4_NoTest => first | k_is | kx_is | k_exc)
    (case e5_NoTest => first | k_is | kx_is | k_exc)
    (case e12_NoTest => first | k_is | kx_is | k_exc)
    (case e13_NoTest => first | k_is | kx_is | k_exc)
    (case e14_NoTest => first | k_is | kx_is | k_exc)
    (case e15_NoTest => first | k_is | kx_is | k_exc)
    (case e16_NoTest => first | k_is | kx_is | k_exc)
    (case e17_NoTest => first | k_is | kx_is | k_exc)
    (case v4_NoTest => first | k_is | kx_is | k_exc)
    (case v5_NoTest => first | k_is | kx_is | k_exc)
    (case v6_NoTest => first | k_is | kx_is | k_exc)
    (case v7_NoTest => first | k_is | kx_is | k_exc)
    (case e3_NoTest => first | k_is | kx_is | k_exc)
    (case e6name_NoTest => first | k_is | kx_is | k_exc)
    (case e7_NoTest => first | k_is | kx_is | k_exc)
    (case e8_NoTest => first | k_is | kx_is | k_exc)
    (case e9_NoTest => first | k_is | kx_is | k_exc)
    (case e10_NoTest => first | k_is | kx_is | k_exc)
    (case e11_NoTest => first | k_is | kx_is | k_exc)
    (case e18_NoTest => first | k_is | kx_is | k_exc)
    (case e19_NoTest => first | k_is | kx_is | k_exc)
    (case e1_NoCheck => first | k_is | kx_is | k_exc)
    (case e4_NoCheck => first | k_is | kx_is | k_exc)
    (case e5_NoCheck => first | k_is | kx_is | k_exc)
    (case e12_NoCheck => first | k_is | kx_is | k_exc)
    (case e13_NoCheck => first | k_is | kx_is | k_exc)
    (case e14_NoCheck => first | k_is | kx_is | k_exc)
    (case e15_NoCheck => first | k_is | kx_is | k_exc)
    (case e16_NoCheck => first | k_is | kx_is | k_exc)
    (case e17_NoCheck => first | k_is | kx_is | k_exc)
    (case v4_NoCheck => first | k_is | kx_is | k_exc)
    (case v5_NoCheck => first | k_is | kx_is | k_exc)
    (case v6_NoCheck => first | k_is | kx_is | k_exc)
    (case v7_NoCheck => first | k_is | kx_is | k_exc)
    (case e3_NoCheck => first | k_is | kx_is | k_exc)
    (case e6line_NoCheck => first | k_is | kx_is | k_exc)
    (case e7_NoCheck => first | k_is | kx_is | k_exc)
    (case e8_NoCheck => first | k_is | kx_is | k_exc)
    (case e9_NoCheck => first | k_is | kx_is | k_exc)
    (case e10_NoCheck => first | k_is | kx_is | k_exc)
    (case e11_NoCheck => first | k_is | kx_is | k_exc)
    (case e18_NoCheck => first | k_is | kx_is | k_exc)
    (case e19_NoCheck => first | k_is | kx_is | k_exc)
    (case e1_NothingToUndo => first | k_is | kx_is | k_exc)
    (case e4_NothingToUndo => first | k_is | kx_is | k_exc)
    (case e5_NothingToUndo => first | k_is | kx_is | k_exc)
    (case e12_NothingToUndo => first | k_is | kx_is | k_exc)
    (case e13_NothingToUndo => first | k_is | kx_is | k_exc)
    (case e14_NothingToUndo => first | k_is | kx_is | k_exc)
    (case e15_NothingToUndo => first | k_is | kx_is | k_exc)
    (case e16_NothingToUndo => first | k_is | kx_is | k_exc)
    (case e17_NothingToUndo => first | k_is | kx_is | k_exc)
    (case v4_NothingToUndo => first | k_is | kx_is | k_exc)
    (case v5_NothingToUndo => first | k_is | kx_is | k_exc)
    (case v6_NothingToUndo => first | k_is | kx_is | k_exc)
    (case v7_NothingToUndo => first | k_is | kx_is | k_exc)
    (case e20_NothingToUndo => first | k_is | kx_is | k_exc)
    (case e1_Raised => first | k_is | kx_is | k_exc)
    (case e4_Raised => first | k_is | kx_is | k_exc)
    (case e5_Raised => first | k_is | kx_is | k_exc)
    (case e12_Raised => first | k_is | kx_is | k_exc)
    (case e13_Raised => first | k_is | kx_is | k_exc)
    (case e14_Raised => first | k_is | kx_is | k_exc)
    (case e15_Raised => first | k_is | kx_is | k_exc)
    (case e16_Raised => first | k_is | kx_is | k_exc)
    (case e17_Raised => first | k_is | kx_is | k_exc)
    (case v4_Raised => first | k_is | kx_is | k_exc)
    (case v5_Raised => first | k_is | kx_is | k_exc)
    (case v6_Raised => first | k_is | kx_is | k_exc)
    (case v7_Raised => first | k_is | kx_is | k_exc)
    (case e3_Raised => first | k_is | kx_is | k_exc)
    (case e6kind_Raised => first | k_is | kx_is | k_exc)
    (case e6cause_Raised => first | k_is | kx_is | k_exc)
    (case e7_Raised => first | k_is | kx_is | k_exc)
    (case e8_Raised => first | k_is | kx_is | k_exc)
    (case e9_Raised => first | k_is | kx_is | k_exc)
    (case e10_Raised => first | k_is | kx_is | k_exc)
    (case e11_Raised => first | k_is | kx_is | k_exc)
    (case e18_Raised => first | k_is | kx_is | k_exc)
    (case e19_Raised => first | k_is | kx_is | k_exc)
    (case k_BadFamily_BadFamily => first | k_is | kx_is | k_exc)
    (case k_BadFamily_BadCall => first | k_is | kx_is | k_exc)
    (case k_BadFamily_BadTest => first | k_is | kx_is | k_exc)
    (case k_BadFamily_BadPart => first | k_is | kx_is | k_exc)
    (case k_BadFamily_BadSuite => first | k_is | kx_is | k_exc)
    (case k_BadFamily_OtherFamily => first | k_is | kx_is | k_exc)
    (case k_BadFamily_BadDemand => first | k_is | kx_is | k_exc)
    (case k_BadFamily_BadDeed => first | k_is | kx_is | k_exc)
    (case k_BadFamily_NoClass => first | k_is | kx_is | k_exc)
    (case k_BadFamily_NoCall => first | k_is | kx_is | k_exc)
    (case k_BadFamily_NoTest => first | k_is | kx_is | k_exc)
    (case k_BadFamily_NoCheck => first | k_is | kx_is | k_exc)
    (case k_BadFamily_NothingToUndo => first | k_is | kx_is | k_exc)
    (case k_BadFamily_Raised => first | k_is | kx_is | k_exc)
    (case k_BadFamily_WhatpassesError => first | k_is | kx_is | k_exc)
    (case k_BadFamily_ValueError => first | k_is | kx_is | k_exc)
    (case k_BadFamily_LookupError => first | k_is | kx_is | k_exc)
    (case k_BadFamily_RuntimeError => first | k_is | kx_is | k_exc)
    (case k_BadFamily_KeyError => first | k_is | kx_is | k_exc)
    (case k_BadFamily_IndexError => first | k_is | kx_is | k_exc)
    (case k_BadFamily_NotImplementedError => first | k_is | kx_is | k_exc)
    (case k_BadCall_BadFamily => first | k_is | kx_is | k_exc)
    (case k_BadCall_BadCall => first | k_is | kx_is | k_exc)
    (case k_BadCall_BadTest => first | k_is | kx_is | k_exc)
    (case k_BadCall_BadPart => first | k_is | kx_is | k_exc)
    (case k_BadCall_BadSuite => first | k_is | kx_is | k_exc)
    (case k_BadCall_OtherFamily => first | k_is | kx_is | k_exc)
    (case k_BadCall_BadDemand => first | k_is | kx_is | k_exc)
    (case k_BadCall_BadDeed => first | k_is | kx_is | k_exc)
    (case k_BadCall_NoClass => first | k_is | kx_is | k_exc)
    (case k_BadCall_NoCall => first | k_is | kx_is | k_exc)
    (case k_BadCall_NoTest => first | k_is | kx_is | k_exc)
    (case k_BadCall_NoCheck => first | k_is | kx_is | k_exc)
    (case k_BadCall_NothingToUndo => first | k_is | kx_is | k_exc)
    (case k_BadCall_Raised => first | k_is | kx_is | k_exc)
    (case k_BadCall_WhatpassesError => first | k_is | kx_is | k_exc)
    (case k_BadCall_ValueError => first | k_is | kx_is | k_exc)
    (case k_BadCall_LookupError => first | k_is | kx_is | k_exc)
    (case k_BadCall_RuntimeError => first | k_is | kx_is | k_exc)
    (case k_BadCall_KeyError => first | k_is | kx_is | k_exc)
    (case k_BadCall_IndexError => first | k_is | kx_is | k_exc)
    (case k_BadCall_NotImplementedError => first | k_is | kx_is | k_exc)
    (case k_BadTest_BadFamily => first | k_is | kx_is | k_exc)
    (case k_BadTest_BadCall => first | k_is | kx_is | k_exc)
    (case k_BadTest_BadTest => first | k_is | kx_is | k_exc)
    (case k_BadTest_BadPart => first | k_is | kx_is | k_exc)
    (case k_BadTest_BadSuite => first | k_is | kx_is | k_exc)
    (case k_BadTest_OtherFamily => first | k_is | kx_is | k_exc)
    (case k_BadTest_BadDemand => first | k_is | kx_is | k_exc)
    (case k_BadTest_BadDeed => first | k_is | kx_is | k_exc)
    (case k_BadTest_NoClass => first | k_is | kx_is | k_exc)
    (case k_BadTest_NoCall => first | k_is | kx_is | k_exc)
    (case k_BadTest_NoTest => first | k_is | kx_is | k_exc)
    (case k_BadTest_NoCheck => first | k_is | kx_is | k_exc)
    (case k_BadTest_NothingToUndo => first | k_is | kx_is | k_exc)
    (case k_BadTest_Raised => first | k_is | kx_is | k_exc)
    (case k_BadTest_WhatpassesError => first | k_is | kx_is | k_exc)
    (case k_BadTest_ValueError => first | k_is | kx_is | k_exc)
    (case k_BadTest_LookupError => first | k_is | kx_is | k_exc)
    (case k_BadTest_RuntimeError => first | k_is | kx_is | k_exc)
    (case k_BadTest_KeyError => first | k_is | kx_is | k_exc)
    (case k_BadTest_IndexError => first | k_is | kx_is | k_exc)
    (case k_BadTest_NotImplementedError => first | k_is | kx_is | k_exc)
    (case k_BadPart_BadFamily => first | k_is | kx_is | k_exc)
    (case k_BadPart_BadCall => first | k_is | kx_is | k_exc)
    (case k_BadPart_BadTest => first | k_is | kx_is | k_exc)
    (case k_BadPart_BadPart => first | k_is | kx_is | k_exc)
    (case k_BadPart_BadSuite => first | k_is | kx_is | k_exc)
    (case k_BadPart_OtherFamily => first | k_is | kx_is | k_exc)
    (case k_BadPart_BadDemand => first | k_is | kx_is | k_exc)
    (case k_BadPart_BadDeed => first | k_is | kx_is | k_exc)
    (case k_BadPart_NoClass => first | k_is | kx_is | k_exc)
    (case k_BadPart_NoCall => first | k_is | kx_is | k_exc)
    (case k_BadPart_NoTest => first | k_is | kx_is | k_exc)
    (case k_BadPart_NoCheck => first | k_is | kx_is | k_exc)
    (case k_BadPart_NothingToUndo => first | k_is | kx_is | k_exc)
    (case k_BadPart_Raised => first | k_is | kx_is | k_exc)
    (case k_BadPart_WhatpassesError => first | k_is | kx_is | k_exc)
    (case k_BadPart_ValueError => first | k_is | kx_is | k_exc)
    (case k_BadPart_LookupError => first | k_is | kx_is | k_exc)
    (case k_BadPart_RuntimeError => first | k_is | kx_is | k_exc)
    (case k_BadPart_KeyError => first | k_is | kx_is | k_exc)
    (case k_BadPart_IndexError => first | k_is | kx_is | k_exc)
    (case k_BadPart_NotImplementedError => first | k_is | kx_is | k_exc)
    (case k_BadSuite_BadFamily => first | k_is | kx_is | k_exc)
    (case k_BadSuite_BadCall => first | k_is | kx_is | k_exc)
    (case k_BadSuite_BadTest => first | k_is | kx_is | k_exc)
    (case k_BadSuite_BadPart => first | k_is | kx_is | k_exc)
    (case k_BadSuite_BadSuite => first | k_is | kx_is | k_exc)
    (case k_BadSuite_OtherFamily => first | k_is | kx_is | k_exc)
    (case k_BadSuite_BadDemand => first | k_is | kx_is | k_exc)
    (case k_BadSuite_BadDeed => first | k_is | kx_is | k_exc)
    (case k_BadSuite_NoClass => first | k_is | kx_is | k_exc)
    (case k_BadSuite_NoCall => first | k_is | kx_is | k_exc)
    (case k_BadSuite_NoTest => first | k_is | kx_is | k_exc)
    (case k_BadSuite_NoCheck => first | k_is | kx_is | k_exc)
    (case k_BadSuite_NothingToUndo => first | k_is | kx_is | k_exc)
    (case k_BadSuite_Raised => first | k_is | kx_is | k_exc)
    (case k_BadSuite_WhatpassesError => first | k_is | kx_is | k_exc)
    (case k_BadSuite_ValueError => first | k_is | kx_is | k_exc)
    (case k_BadSuite_LookupError => first | k_is | kx_is | k_exc)
    (case k_BadSuite_RuntimeError => first | k_is | kx_is | k_exc)
    (case k_BadSuite_KeyError => first | k_is | kx_is | k_exc)
    (case k_BadSuite_IndexError => first | k_is | kx_is | k_exc)
    (case k_BadSuite_NotImplementedError => first | k_is | kx_is | k_exc)
    (case k_OtherFamily_BadFamily => first | k_is | kx_is | k_exc)
    (case k_OtherFamily_BadCall => first | k_is | kx_is | k_exc)
    (case k_OtherFamily_BadTest => first | k_is | kx_is | k_exc)
    (case k_OtherFamily_BadPart => first | k_is | kx_is | k_exc)
    (case k_OtherFamily_BadSuite => first | k_is | kx_is | k_exc)
    (case k_OtherFamily_OtherFamily => first | k_is | kx_is | k_exc)
    (case k_OtherFamily_BadDemand => first | k_is | kx_is | k_exc)
    (case k_OtherFamily_BadDeed => first | k_is | kx_is | k_exc)
    (case k_OtherFamily_NoClass => first | k_is | kx_is | k_exc)
    (case k_OtherFamily_NoCall => first | k_is | kx_is | k_exc)
    (case k_OtherFamily_NoTest => first | k_is | kx_is | k_exc)
    (case k_OtherFamily_NoCheck => first | k_is | kx_is | k_exc)
    (case k_OtherFamily_NothingToUndo => first | k_is | kx_is | k_exc)
    (case k_OtherFamily_Raised => first | k_is | kx_is | k_exc)
    (case k_OtherFamily_WhatpassesError => first | k_is | kx_is | k_exc)
    (case k_OtherFamily_ValueError => first | k_is | kx_is | k_exc)
    (case k_OtherFamily_LookupError => first | k_is | kx_is | k_exc)
    (case k_OtherFamily_RuntimeError => first | k_is | kx_is | k_exc)
    (case k_OtherFamily_KeyError => first | k_is | kx_is | k_exc)
    (case k_OtherFamily_IndexError => first | k_is | kx_is | k_exc)
    (case k_OtherFamily_NotImplementedError => first | k_is | kx_is | k_exc)
    (case k_BadDemand_BadFamily => first | k_is | kx_is | k_exc)
    (case k_BadDemand_BadCall => first | k_is | kx_is | k_exc)
    (case k_BadDemand_BadTest => first | k_is | kx_is | k_exc)
    (case k_BadDemand_BadPart => first | k_is | kx_is | k_exc)
    (case k_BadDemand_BadSuite => first | k_is | kx_is | k_exc)
    (case k_BadDemand_OtherFamily => first | k_is | kx_is | k_exc)
    (case k_BadDemand_BadDemand => first | k_is | kx_is | k_exc)
    (case k_BadDemand_BadDeed => first | k_is | kx_is | k_exc)
    (case k_BadDemand_NoClass => first | k_is | kx_is | k_exc)
    (case k_BadDemand_NoCall => first | k_is | kx_is | k_exc)
    (case k_BadDemand_NoTest => first | k_is | kx_is | k_exc)
    (case k_BadDemand_NoCheck => first | k_is | kx_is | k_exc)
    (case k_BadDemand_NothingToUndo => first | k_is | kx_is | k_exc)
    (case k_BadDemand_Raised => first | k_is | kx_is | k_exc)
    (case k_BadDemand_WhatpassesError => first | k_is | kx_is | k_exc)
    (case k_BadDemand_ValueError => first | k_is | kx_is | k_exc)
    (case k_BadDemand_LookupError => first | k_is | kx_is | k_exc)
    (case k_BadDemand_RuntimeError => first | k_is | kx_is | k_exc)
    (case k_BadDemand_KeyError => first | k_is | kx_is | k_exc)
    (case k_BadDemand_IndexError => first | k_is | kx_is | k_exc)
    (case k_BadDemand_NotImplementedError => first | k_is | kx_is | k_exc)
    (case k_BadDeed_BadFamily => first | k_is | kx_is | k_exc)
    (case k_BadDeed_BadCall => first | k_is | kx_is | k_exc)
    (case k_BadDeed_BadTest => first | k_is | kx_is | k_exc)
    (case k_BadDeed_BadPart => first | k_is | kx_is | k_exc)
    (case k_BadDeed_BadSuite => first | k_is | kx_is | k_exc)
    (case k_BadDeed_OtherFamily => first | k_is | kx_is | k_exc)
    (case k_BadDeed_BadDemand => first | k_is | kx_is | k_exc)
    (case k_BadDeed_BadDeed => first | k_is | kx_is | k_exc)
    (case k_BadDeed_NoClass => first | k_is | kx_is | k_exc)
    (case k_BadDeed_NoCall => first | k_is | kx_is | k_exc)
    (case k_BadDeed_NoTest => first | k_is | kx_is | k_exc)
    (case k_BadDeed_NoCheck => first | k_is | kx_is | k_exc)
    (case k_BadDeed_NothingToUndo => first | k_is | kx_is | k_exc)
    (case k_BadDeed_Raised => first | k_is | kx_is | k_exc)
    (case k_BadDeed_WhatpassesError => first | k_is | kx_is | k_exc)
    (case k_BadDeed_ValueError => first | k_is | kx_is | k_exc)
    (case k_BadDeed_LookupError => first | k_is | kx_is | k_exc)
    (case k_BadDeed_RuntimeError => first | k_is | kx_is | k_exc)
    (case k_BadDeed_KeyError => first | k_is | kx_is | k_exc)
    (case k_BadDeed_IndexError => first | k_is | kx_is | k_exc)
    (case k_BadDeed_NotImplementedError => first | k_is | kx_is | k_exc)
    (case k_NoClass_BadFamily => first | k_is | kx_is | k_exc)
    (case k_NoClass_BadCall => first | k_is | kx_is | k_exc)
    (case k_NoClass_BadTest => first | k_is | kx_is | k_exc)
    (case k_NoClass_BadPart => first | k_is | kx_is | k_exc)
    (case k_NoClass_BadSuite => first | k_is | kx_is | k_exc)
    (case k_NoClass_OtherFamily => first | k_is | kx_is | k_exc)
    (case k_NoClass_BadDemand => first | k_is | kx_is | k_exc)
    (case k_NoClass_BadDeed => first | k_is | kx_is | k_exc)
    (case k_NoClass_NoClass => first | k_is | kx_is | k_exc)
    (case k_NoClass_NoCall => first | k_is | kx_is | k_exc)
    (case k_NoClass_NoTest => first | k_is | kx_is | k_exc)
    (case k_NoClass_NoCheck => first | k_is | kx_is | k_exc)
    (case k_NoClass_NothingToUndo => first | k_is | kx_is | k_exc)
    (case k_NoClass_Raised => first | k_is | kx_is | k_exc)
    (case k_NoClass_WhatpassesError => first | k_is | kx_is | k_exc)
    (case k_NoClass_ValueError => first | k_is | kx_is | k_exc)
    (case k_NoClass_LookupError => first | k_is | kx_is | k_exc)
    (case k_NoClass_RuntimeError => first | k_is | kx_is | k_exc)
    (case k_NoClass_KeyError => first | k_is | kx_is | k_exc)
    (case k_NoClass_IndexError => first | k_is | kx_is | k_exc)
    (case k_NoClass_NotImplementedError => first | k_is | kx_is | k_exc)
    (case k_NoCall_BadFamily => first | k_is | kx_is | k_exc)
    (case k_NoCall_BadCall => first | k_is | kx_is | k_exc)
    (case k_NoCall_BadTest => first | k_is | kx_is | k_exc)
    (case k_NoCall_BadPart => first | k_is | kx_is | k_exc)
    (case k_NoCall_BadSuite => first | k_is | kx_is | k_exc)
    (case k_NoCall_OtherFamily => first | k_is | kx_is | k_exc)
    (case k_NoCall_BadDemand => first | k_is | kx_is | k_exc)
    (case k_NoCall_BadDeed => first | k_is | kx_is | k_exc)
    (case k_NoCall_NoClass => first | k_is | kx_is | k_exc)
    (case k_NoCall_NoCall => first | k_is | kx_is | k_exc)
    (case k_NoCall_NoTest => first | k_is | kx_is | k_exc)
    (case k_NoCall_NoCheck => first | k_is | kx_is | k_exc)
    (case k_NoCall_NothingToUndo => first | k_is | kx_is | k_exc)
    (case k_NoCall_Raised => first | k_is | kx_is | k_exc)
    (case k_NoCall_WhatpassesError => first | k_is | kx_is | k_exc)
    (case k_NoCall_ValueError => first | k_is | kx_is | k_exc)
    (case k_NoCall_LookupError => first | k_is | kx_is | k_exc)
    (case k_NoCall_RuntimeError => first | k_is | kx_is | k_exc)
    (case k_NoCall_KeyError => first | k_is | kx_is | k_exc)
    (case k_NoCall_IndexError => first | k_is | kx_is | k_exc)
    (case k_NoCall_NotImplementedError => first | k_is | kx_is | k_exc)
    (case k_NoTest_BadFamily => first | k_is | kx_is | k_exc)
    (case k_NoTest_BadCall => first | k_is | kx_is | k_exc)
    (case k_NoTest_BadTest => first | k_is | kx_is | k_exc)
    (case k_NoTest_BadPart => first | k_is | kx_is | k_exc)
    (case k_NoTest_BadSuite => first | k_is | kx_is | k_exc)
    (case k_NoTest_OtherFamily => first | k_is | kx_is | k_exc)
    (case k_NoTest_BadDemand => first | k_is | kx_is | k_exc)
    (case k_NoTest_BadDeed => first | k_is | kx_is | k_exc)
    (case k_NoTest_NoClass => first | k_is | kx_is | k_exc)
    (case k_NoTest_NoCall => first | k_is | kx_is | k_exc)
    (case k_NoTest_NoTest => first | k_is | kx_is | k_exc)
    (case k_NoTest_NoCheck => first | k_is | kx_is | k_exc)
    (case k_NoTest_NothingToUndo => first | k_is | kx_is | k_exc)
    (case k_NoTest_Raised => first | k_is | kx_is | k_exc)
    (case k_NoTest_WhatpassesError => first | k_is | kx_is | k_exc)
    (case k_NoTest_ValueError => first | k_is | kx_is | k_exc)
    (case k_NoTest_LookupError => first | k_is | kx_is | k_exc)
    (case k_NoTest_RuntimeError => first | k_is | kx_is | k_exc)
    (case k_NoTest_KeyError => first | k_is | kx_is | k_exc)
    (case k_NoTest_IndexError => first | k_is | kx_is | k_exc)
    (case k_NoTest_NotImplementedError => first | k_is | kx_is | k_exc)
    (case k_NoCheck_BadFamily => first | k_is | kx_is | k_exc)
    (case k_NoCheck_BadCall => first | k_is | kx_is | k_exc)
    (case k_NoCheck_BadTest => first | k_is | kx_is | k_exc)
    (case k_NoCheck_BadPart => first | k_is | kx_is | k_exc)
    (case k_NoCheck_BadSuite => first | k_is | kx_is | k_exc)
    (case k_NoCheck_OtherFamily => first | k_is | kx_is | k_exc)
    (case k_NoCheck_BadDemand => first | k_is | kx_is | k_exc)
    (case k_NoCheck_BadDeed => first | k_is | kx_is | k_exc)
    (case k_NoCheck_NoClass => first | k_is | kx_is | k_exc)
    (case k_NoCheck_NoCall => first | k_is | kx_is | k_exc)
    (case k_NoCheck_NoTest => first | k_is | kx_is | k_exc)
    (case k_NoCheck_NoCheck => first | k_is | kx_is | k_exc)
    (case k_NoCheck_NothingToUndo => first | k_is | kx_is | k_exc)
    (case k_NoCheck_Raised => first | k_is | kx_is | k_exc)
    (case k_NoCheck_WhatpassesError => first | k_is | kx_is | k_exc)
    (case k_NoCheck_ValueError => first | k_is | kx_is | k_exc)
    (case k_NoCheck_LookupError => first | k_is | kx_is | k_exc)
    (case k_NoCheck_RuntimeError => first | k_is | kx_is | k_exc)
    (case k_NoCheck_KeyError => first | k_is | kx_is | k_exc)
    (case k_NoCheck_IndexError => first | k_is | kx_is | k_exc)
    (case k_NoCheck_NotImplementedError => first | k_is | kx_is | k_exc)
    (case k_NothingToUndo_BadFamily => first | k_is | kx_is | k_exc)
    (case k_NothingToUndo_BadCall => first | k_is | kx_is | k_exc)
    (case k_NothingToUndo_BadTest => first | k_is | kx_is | k_exc)
    (case k_NothingToUndo_BadPart => first | k_is | kx_is | k_exc)
    (case k_NothingToUndo_BadSuite => first | k_is | kx_is | k_exc)
    (case k_NothingToUndo_OtherFamily => first | k_is | kx_is | k_exc)
    (case k_NothingToUndo_BadDemand => first | k_is | kx_is | k_exc)
    (case k_NothingToUndo_BadDeed => first | k_is | kx_is | k_exc)
    (case k_NothingToUndo_NoClass => first | k_is | kx_is | k_exc)
    (case k_NothingToUndo_NoCall => first | k_is | kx_is | k_exc)
    (case k_NothingToUndo_NoTest => first | k_is | kx_is | k_exc)
    (case k_NothingToUndo_NoCheck => first | k_is | kx_is | k_exc)
    (case k_NothingToUndo_NothingToUndo => first | k_is | kx_is | k_exc)
    (case k_NothingToUndo_Raised => first | k_is | kx_is | k_exc)
    (case k_NothingToUndo_WhatpassesError => first | k_is | kx_is | k_exc)
    (case k_NothingToUndo_ValueError => first | k_is | kx_is | k_exc)
    (case k_NothingToUndo_LookupError => first | k_is | kx_is | k_exc)
    (case k_NothingToUndo_RuntimeError => first | k_is | kx_is | k_exc)
    (case k_NothingToUndo_KeyError => first | k_is | kx_is | k_exc)
    (case k_NothingToUndo_IndexError => first | k_is | kx_is | k_exc)
    (case k_NothingToUndo_NotImplementedError => first | k_is | kx_is | k_exc)
    (case k_Raised_BadFamily => first | k_is | kx_is | k_exc)
    (case k_Raised_BadCall => first | k_is | kx_is | k_exc)
    (case k_Raised_BadTest => first | k_is | kx_is | k_exc)
    (case k_Raised_BadPart => first | k_is | kx_is | k_exc)
    (case k_Raised_BadSuite => first | k_is | kx_is | k_exc)
    (case k_Raised_OtherFamily => first | k_is | kx_is | k_exc)
    (case k_Raised_BadDemand => first | k_is | kx_is | k_exc)
    (case k_Raised_BadDeed => first | k_is | kx_is | k_exc)
    (case k_Raised_NoClass => first | k_is | kx_is | k_exc)
    (case k_Raised_NoCall => first | k_is | kx_is | k_exc)
    (case k_Raised_NoTest => first | k_is | kx_is | k_exc)
    (case k_Raised_NoCheck => first | k_is | kx_is | k_exc)
    (case k_Raised_NothingToUndo => first | k_is | kx_is | k_exc)
    (case k_Raised_Raised => first | k_is | kx_is | k_exc)
    (case k_Raised_WhatpassesError => first | k_is | kx_is | k_exc)
    (case k_Raised_ValueError => first | k_is | kx_is | k_exc)
    (case k_Raised_LookupError => first | k_is | kx_is | k_exc)
    (case k_Raised_RuntimeError => first | k_is | kx_is | k_exc)
    (case k_Raised_KeyError => first | k_is | kx_is | k_exc)
    (case k_Raised_IndexError => first | k_is | kx_is | k_exc)
    (case k_Raised_NotImplementedError => first | k_is | kx_is | k_exc)
    (case z_IndexError => first | k_is | kx_is | k_exc)
    (case z_KeyError => first | k_is | kx_is | k_exc)
    (case z_LookupError => first | k_is | kx_is | k_exc)
    (case z_NotImplementedError => first | k_is | kx_is | k_exc)
    (case z_RuntimeError => first | k_is | kx_is | k_exc)
    (case z_ValueError => first | k_is | kx_is | k_exc)
    (case z_abs => first | k_is | kx_is | k_exc)
    (case z_any => first | k_is | kx_is | k_exc)
    (case z_int => first | k_is | kx_is | k_exc)
    (case z_isinstance => first | k_is | kx_is | k_exc)
    (case z_len => first | k_is | kx_is | k_exc)
    (case z_max => first | k_is | kx_is | k_exc)
    (case z_min => first | k_is | kx_is | k_exc)
    (case z_range => first | k_is | kx_is | k_exc)
    (case z_repr => first | k_is | kx_is | k_exc)
    (case z_tuple => first | k_is | kx_is | k_exc)
